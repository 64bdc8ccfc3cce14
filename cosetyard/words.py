"""Words: tuples of steps. A step is a letter's number, or that number below nought, the letter's back."""


def steps_of(letters):
    steps = []
    for letter in range(1, letters + 1):
        steps.append(letter)
        steps.append(-letter)
    return steps


def back(word):
    return tuple([-step for step in reversed(word)])


def thinned(word):
    left = []
    for step in word:
        # What is left so far has no two steps to take out, so only its last one can meet its back here.
        if left and left[-1] == -step:
            left.pop()
        else:
            left.append(step)
    return tuple(left)


def raised(word, power):
    if power < 0:
        return back(word) * -power
    return word * power


def filled_in(word, images):
    filled = []
    for step in word:
        image = images[abs(step) - 1]
        filled.extend(image if step > 0 else back(image))
    return tuple(filled)
