"""What several modules ask of values and of words."""


def is_integer(value):
    """Whether a value, any one, is an integer."""
    return isinstance(value, int) and not isinstance(value, bool)


def is_from(value, least):
    """Whether a value, any one, is an integer from least on."""
    return is_integer(value) and value >= least


def is_between(value, least, greatest):
    """Whether a value, any one, is an integer from least to greatest."""
    return is_from(value, least) and value <= greatest


def is_sequence(value):
    """Whether a value, any one, is a list or a tuple."""
    return isinstance(value, (list, tuple))


def read_number(word):
    """The number with this text (at most two digits, no leading zero), or None."""
    # isdigit alone is also true of digits that are not ASCII.
    if len(word) > 2 or not word.isascii() or not word.isdigit():
        return None
    number = int(word)
    return number if str(number) == word else None


def part_of(many, top, under, up):
    """So many times top / under, rounded up or down."""
    if up:
        return (many * top + under - 1) // under
    return many * top // under
