"""The forms of values that all points share: numbers, tuples, sets."""


def is_number(thing):
    """Whether thing is a number: True and False are none."""
    return isinstance(thing, int) and not isinstance(thing, bool)


def is_from_zero(thing):
    """Whether thing is a number from 0."""
    return is_number(thing) and thing >= 0


def is_below(thing, many):
    """Whether thing is a number from 0, below many."""
    return is_number(thing) and 0 <= thing < many


def is_tuple_of(thing, many):
    """Whether thing is a tuple of so many."""
    return isinstance(thing, tuple) and len(thing) == many


def is_ascending(things):
    """Whether things, which can be compared, ascend without duplicates."""
    return all([things[at - 1] < things[at] for at in range(1, len(things))])


def is_numbers(thing):
    """Whether thing is a tuple of numbers."""
    return isinstance(thing, tuple) and all([is_number(number) for number in thing])


def is_set_below(thing, many):
    """Whether thing is a set of numbers from 0, below many."""
    return isinstance(thing, tuple) and all([is_below(number, many) for number in thing]) and is_ascending(thing)


def ascending(things):
    """The set of things, which are numbers or tuples of numbers."""
    return tuple(sorted(set(things)))


def as_tuples(value, deep):
    """value with tuples in the place of lists, on its first levels, so many.

    Levels further down stay as they are, so that what is nested without end
    is no danger: no form that is asked for reaches there.
    """
    if deep == 0 or not isinstance(value, (list, tuple)):
        return value
    return tuple([as_tuples(part, deep - 1) for part in value])


def exchanged(parts, at, part):
    """The tuple parts with part in the place at."""
    return (*parts[:at], part, *parts[at + 1:])
