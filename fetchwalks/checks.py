"""Questions about values of any kind."""

LETTERS = "abcdefghijklmnopqrstuvwxyz"
LONGEST_NAME = 8
GREATEST_ID = 1000000000


def is_integer(value):
    # True and False are instances of int, but they are never numbers here.
    return isinstance(value, int) and not isinstance(value, bool)


def is_count(value):
    return is_integer(value) and value >= 0


def is_id(value):
    return isinstance(value, int) and 1 <= value <= GREATEST_ID and not isinstance(value, bool)


def is_sequence(value):
    return isinstance(value, (list, tuple))


def is_name(value):
    if not isinstance(value, str) or len(value) > LONGEST_NAME:
        return False
    # Of the signs of ASCII only the letters from a to z pass both other tests.
    return value.isascii() and value.isalpha() and value.islower()


def is_path(value):
    """Whether the value is a tuple of integers, and so can be a key."""
    if not isinstance(value, tuple):
        return False
    for position in value:
        # Nearly all are plain integers, which this tells at once.
        if type(position) is not int and not is_integer(position):
            return False
    return True


def are_words(value):
    """Whether the value is a tuple of strings, and so can be a key."""
    if not isinstance(value, tuple):
        return False
    for word in value:
        if not isinstance(word, str):
            return False
    return True
