"""Words of texts and lines: how numbers are written and read."""

DIGITS = "0123456789"


def digits_of(word):
    """Return a word without the - before a negative number."""
    return word[1:] if word.startswith("-") else word


def is_number(word):
    """Return whether a word is a number with digits, without needless zeros, with - before a negative one."""
    digits = digits_of(word)
    if digits == "" or not all([digit in DIGITS for digit in digits]):
        return False
    return word == "0" or digits[0] != "0"


def read_numbers(words):
    """Return the numbers that words stand for, or None if one of them is no number."""
    if not all([is_number(word) for word in words]):
        return None
    return [int(word) for word in words]


def write_numbers(numbers):
    """Return numbers as words that are separated by one space."""
    return " ".join([str(number) for number in numbers])
