"""Integers: their decimal forms in texts, and quotients that are rounded up."""

DIGITS = "0123456789"

# No integer that a text may contain is longer, and Python itself refuses to read very long ones.
MOST_DIGITS = 9


def read_number(word):
    """Return the integer whose decimal form the word is, or None if there is none of at most 9 digits."""
    if len(word) == 0 or len(word) > MOST_DIGITS:
        return None
    if not all([letter in DIGITS for letter in word]):
        return None
    if word[0] == "0" and word != "0":
        return None
    return int(word)


def read_numbers(words):
    """Return the list of the integers that the words are the forms of, or None if some word is none."""
    numbers = [read_number(word) for word in words]
    if None in numbers:
        return None
    return numbers


def write_numbers(numbers):
    """Return the list of the decimal forms."""
    return [str(number) for number in numbers]


def rounded_up(number, divisor):
    """Return the quotient by a divisor above 0, rounded up."""
    return (number + divisor - 1) // divisor
