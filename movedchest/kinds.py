"""Numbers and tuples: what an argument is, and how it is taken in."""

from movedchest.errors import Unfit


def is_number(thing):
    """Whether thing is a number: True and False are none."""
    return isinstance(thing, int) and not isinstance(thing, bool)


def is_from_to(thing, low, high):
    """Whether thing is a number from low to high."""
    return is_number(thing) and low <= thing <= high


def is_sign(thing):
    """Whether thing is 1 or -1."""
    return is_number(thing) and abs(thing) == 1


def are_numbers(thing, many):
    """Whether thing is a tuple of so many numbers."""
    return isinstance(thing, tuple) and len(thing) == many and all([is_number(own) for own in thing])


def is_ascending(values):
    """Whether each of the values is less than the one behind it."""
    return all([first < second for first, second in zip(values, values[1:])])


def is_just(thing, told):
    """Whether thing is told, which is built of numbers, strings and tuples: True is no 1 there, a list no tuple."""
    if isinstance(told, tuple):
        if not isinstance(thing, tuple) or len(thing) != len(told):
            return False
        return all([is_just(part, own) for part, own in zip(thing, told)])
    if isinstance(told, str):
        return isinstance(thing, str) and thing == told
    return is_number(thing) and thing == told


def tupled(value, levels):
    """value with tuples in the place of lists, down to so many levels.

    Deeper ones stay: nothing is nested deeper than its kind is, and a list
    that contains itself comes to an end.
    """
    if levels == 0 or not isinstance(value, (list, tuple)):
        return value
    return tuple([tupled(own, levels - 1) for own in value])


def fit_number(value):
    """value, if it is a number, else Unfit()."""
    if not is_number(value):
        raise Unfit()
    return value


def fit_from_to(value, low, high):
    """value, if it is a number from low to high, else Unfit()."""
    if not is_from_to(value, low, high):
        raise Unfit()
    return value


def summed(numbers, others):
    """Both tuples of numbers added up, place by place."""
    return tuple([one + other for one, other in zip(numbers, others)])


def negative(numbers):
    """The tuple of the numbers with each the other sign."""
    return tuple([-number for number in numbers])
