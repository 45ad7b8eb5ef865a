"""What several modules ask of values and of words."""


def is_from(value, least):
    """Whether a value, any one, is an integer from least on."""
    return isinstance(value, int) and not isinstance(value, bool) and value >= least


def is_sequence(value):
    """Whether a value, any one, is a list or a tuple."""
    return isinstance(value, (list, tuple))


def read_number(word):
    """The number with this text (at most two digits, no leading zero), or None."""
    # isdigit alone is also true of digits that are not ASCII.
    if len(word) > 2 or not word.isascii() or not word.isdigit():
        return None
    number = int(word)
    return number if str(number) == word else None
