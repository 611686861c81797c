"""Words: the strings that name tables and stand in data."""

LETTERS_AND_DIGITS = "abcdefghijklmnopqrstuvwxyz0123456789"
LONGEST = 12


def is_word(text):
    """Tell whether a string is a word."""
    return 1 <= len(text) <= LONGEST and all([sign in LETTERS_AND_DIGITS for sign in text])
