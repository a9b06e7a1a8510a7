"""FRACTIONS: quotients of whole numbers, told exactly. What is told in [3] and [12]."""

from math import gcd

from paidbyheirs.errors import Unfit
from paidbyheirs.forms import is_number, is_tuple_of


def is_fraction(thing):
    """Whether thing is a FRACTION."""
    if not is_tuple_of(thing, 2) or not is_number(thing[0]) or not is_number(thing[1]):
        return False
    number, many = thing
    return many >= 1 and gcd(number, many) == 1


def cut(number, many):
    """The FRACTION for number by many; Unfit() if many is 0."""
    if many == 0:
        raise Unfit()
    common = gcd(number, many)
    if many < 0:
        common = -common
    return (number // common, many // common)


def added(one, another):
    """Both FRACTIONS added up."""
    number, many = one
    other, more = another
    return cut(number * more + other * many, many * more)


def taken_off(one, another):
    """One FRACTION less another."""
    number, many = one
    other, more = another
    return cut(number * more - other * many, many * more)


def multiplied(one, another):
    """Both FRACTIONS multiplied."""
    number, many = one
    other, more = another
    return cut(number * other, many * more)


def divided(one, another):
    """One FRACTION by another; Unfit() if another is 0."""
    number, many = one
    other, more = another
    return cut(number * more, many * other)


def order(one, another):
    """-1 if one FRACTION is below another, 0 if they are equal, 1 if it is above."""
    number, many = one
    other, more = another
    mine, theirs = number * more, other * many
    if mine == theirs:
        return 0
    return -1 if mine < theirs else 1
