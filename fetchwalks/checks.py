"""Questions about values of any kind."""

LETTERS = "abcdefghijklmnopqrstuvwxyz"
LONGEST_NAME = 8
GREATEST_ID = 1000000000


def is_integer(value):
    # True and False are instances of int, but they are never numbers here.
    return isinstance(value, int) and not isinstance(value, bool)


def is_id(value):
    return is_integer(value) and 1 <= value <= GREATEST_ID


def is_sequence(value):
    return isinstance(value, (list, tuple))


def is_name(value):
    if not isinstance(value, str) or not 1 <= len(value) <= LONGEST_NAME:
        return False
    return all([letter in LETTERS for letter in value])


def is_path(value):
    """Whether the value is a tuple of integers, and so can be a key."""
    return isinstance(value, tuple) and all([is_integer(position) for position in value])
