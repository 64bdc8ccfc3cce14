import unittest

from cosetyard.errors import NoOrder, NoWord, TooGreat, TooLong, TooMany, YardError

REFUSALS = [NoWord, TooLong, NoOrder, TooMany, TooGreat]


class Classes(unittest.TestCase):
    def test_yard_error_is_a_value_error(self):
        self.assertTrue(issubclass(YardError, ValueError))

    def test_each_refusal_is_a_yard_error(self):
        for refusal in REFUSALS:
            self.assertTrue(issubclass(refusal, YardError), refusal)
            self.assertIsNot(refusal, YardError)

    def test_no_refusal_stands_under_another(self):
        for one in REFUSALS:
            for other in REFUSALS:
                self.assertEqual(issubclass(one, other), REFUSALS.index(one) == REFUSALS.index(other), (one, other))

    def test_refusals_are_raised_and_taken_by_name(self):
        for refusal in [NoWord, TooLong, NoOrder, TooGreat]:
            for taken in [refusal, YardError, ValueError]:
                with self.assertRaises(taken):
                    raise refusal("words")
        for taken in [TooMany, YardError, ValueError]:
            with self.assertRaises(taken):
                raise TooMany(1, [])


class TooManyFields(unittest.TestCase):
    def test_fields(self):
        error = TooMany(3, [("new", 0, 1, 1), ("new", 0, -1, 2)])
        self.assertEqual(error.made, 3)
        self.assertEqual(error.rows, [("new", 0, 1, 1), ("new", 0, -1, 2)])
        self.assertIs(type(error.rows), list)

    def test_no_rows(self):
        error = TooMany(1, [])
        self.assertEqual(error.made, 1)
        self.assertEqual(error.rows, [])

    def test_the_list_handed_in_grows_behind(self):
        rows = [("new", 0, 1, 1)]
        error = TooMany(2, rows)
        rows.append(("new", 1, 1, 2))
        self.assertEqual(error.rows, [("new", 0, 1, 1)])

    def test_the_list_handed_in_stays(self):
        rows = [("new", 0, 1, 1)]
        first = TooMany(2, rows)
        first.rows.clear()
        self.assertEqual(rows, [("new", 0, 1, 1)])
        self.assertEqual(TooMany(2, rows).rows, [("new", 0, 1, 1)])

    def test_each_error_has_rows_of_its_own(self):
        first = TooMany(2, [("new", 0, 1, 1)])
        second = TooMany(4, [])
        self.assertEqual((first.made, first.rows), (2, [("new", 0, 1, 1)]))
        self.assertEqual((second.made, second.rows), (4, []))


if __name__ == "__main__":
    unittest.main()
