"""Kinds of values, asked of anything."""


def is_number(thing):
    """Whether it is a whole number."""
    # Python counts truths as ints; here they are none.
    return isinstance(thing, int) and not isinstance(thing, bool)


def is_numbers(thing):
    """Whether it is a tuple of whole numbers, perhaps of none."""
    return isinstance(thing, tuple) and all(is_number(part) for part in thing)


def is_row(thing):
    """Whether it is a tuple of one or more whole numbers."""
    return is_numbers(thing) and len(thing) > 0


def is_entries(thing):
    """Whether it is a tuple of whole numbers and of None where nothing stands, perhaps of none."""
    return isinstance(thing, tuple) and all(part is None or is_number(part) for part in thing)


def is_same(thing, told):
    """Whether anything is the same as what is told, a truth and a number never being so."""
    if isinstance(told, tuple):
        if not isinstance(thing, tuple) or len(thing) != len(told):
            return False
        return all(is_same(part, right) for part, right in zip(thing, told))
    return thing == told and isinstance(thing, bool) == isinstance(told, bool)
