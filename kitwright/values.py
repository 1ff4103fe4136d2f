"""Kinds of values, told apart strictly: in no value is True the number 1."""


def is_number(value):
    """Whether any value is a number."""
    return isinstance(value, int) and not isinstance(value, bool)


def is_index(value, many):
    """Whether any value is one of the first numbers from 0 on, so many of them."""
    return is_number(value) and 0 <= value < many


def is_list(value):
    """Whether any value can stand where a list is expected."""
    return isinstance(value, (list, tuple))


def is_tuple_of(value, many):
    """Whether any value is a tuple of so many items."""
    return isinstance(value, tuple) and len(value) == many


def is_rising(row):
    """Whether each item is greater than the one ahead, of items that can be compared."""
    return all([low < high for low, high in zip(row, row[1:])])
