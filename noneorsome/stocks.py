"""Stocks: whole numbers of things for names ([14])."""

from noneorsome.errors import BadNumber, Short
from noneorsome.names import check_name


def check_number(number):
    if number < 0:
        raise BadNumber(number)


def without_zeros(numbers):
    """Return a dict of its own: a name with the number 0 is as good as none."""
    return {name: number for name, number in numbers.items() if number != 0}


def sums_of(one, other):
    """Return the sums of two dicts of numbers."""
    return {name: one.get(name, 0) + other.get(name, 0) for name in [*one, *other]}


def differences_of(one, other):
    """Return the differences of two dicts of numbers, or raise Short."""
    for name in sorted(list(other), key=str):
        if one.get(name, 0) < other[name]:
            raise Short(name)
    return without_zeros({name: number - other.get(name, 0) for name, number in one.items()})


class Stock:
    """A number from 0 on for each name; 0 if nothing is said of it."""

    def __init__(self, numbers=None):
        given = {} if numbers is None else numbers
        for name in given:
            check_name(name)
        for number in given.values():
            check_number(number)
        self._numbers = without_zeros(given)

    def names(self):
        """Return the names with a number above 0 in ascending order."""
        return sorted(list(self._numbers), key=str)

    def copy(self):
        return Stock(self._numbers)

    def __getitem__(self, name):
        return self._numbers.get(name, 0)

    def __setitem__(self, name, number):
        check_name(name)
        check_number(number)
        self._numbers = without_zeros({**self._numbers, name: number})

    def __iter__(self):
        raise TypeError("a stock is not iterated over")

    def __add__(self, other):
        if not isinstance(other, Stock):
            return NotImplemented
        return Stock(sums_of(self._numbers, other._numbers))

    def __sub__(self, other):
        if not isinstance(other, Stock):
            return NotImplemented
        return Stock(differences_of(self._numbers, other._numbers))

    def __iadd__(self, other):
        if not isinstance(other, Stock):
            return NotImplemented
        self._numbers = sums_of(self._numbers, other._numbers)
        return self

    def __isub__(self, other):
        if not isinstance(other, Stock):
            return NotImplemented
        self._numbers = differences_of(self._numbers, other._numbers)
        return self

    def __eq__(self, other):
        if not isinstance(other, Stock):
            return False
        return self._numbers == other._numbers

    def __le__(self, other):
        if not isinstance(other, Stock):
            return NotImplemented
        return all([number <= other[name] for name, number in self._numbers.items()])
