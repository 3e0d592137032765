"""Numerals, the whole numbers of texts [11.1]."""

MOST_DIGITS = 20


def is_numeral(word):
    """Return whether the word is a whole number of at most 20 digits as it is written."""
    digits = word[1:] if word.startswith("-") else word
    if not 1 <= len(digits) <= MOST_DIGITS or not all(["0" <= digit <= "9" for digit in digits]):
        return False
    return digits[0] != "0" or word == "0"


def number_within(word, low, high):
    """Return the number of a numeral from low to high, None for any other word."""
    if not is_numeral(word):
        return None
    number = int(word)
    return number if low <= number <= high else None
