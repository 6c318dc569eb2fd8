"""What parameters of many modules have in common: numbers, levels, last places."""

from etasure.errors import BadLevel, BadMost

GREATEST_LEVEL = 360
GREATEST_MOST = 3000


def is_number(thing):
    """Whether it is an int that is not a bool."""
    return isinstance(thing, int) and not isinstance(thing, bool)


def is_within(thing, least, greatest):
    """Whether it is a number from least to greatest."""
    return is_number(thing) and least <= thing <= greatest


def are_numbers(things):
    """Whether all that a list or tuple holds are numbers."""
    return all([is_number(thing) for thing in things])


def is_number_list(thing):
    """Whether it is a list of numbers, or a tuple in its place."""
    return isinstance(thing, (list, tuple)) and are_numbers(thing)


def is_number_tuple(thing):
    """Whether it is a tuple of numbers."""
    return isinstance(thing, tuple) and are_numbers(thing)


def is_pair(thing):
    """Whether it is a tuple of two numbers."""
    return is_number_tuple(thing) and len(thing) == 2


def check_level(level):
    """BadLevel unless it is a level."""
    if not is_within(level, 1, GREATEST_LEVEL):
        raise BadLevel("a level is a number from 1 to 360")


def check_most(most):
    """BadMost unless it is the last place of a row."""
    if not is_within(most, 0, GREATEST_MOST):
        raise BadMost("the last place is a number from 0 to 3000")
