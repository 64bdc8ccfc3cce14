"""Cosetyard: rooms filled by going round rules of words."""
