"""What runs do with numbers, and what ends a run ahead of its last statement."""

from strokes.boards import BLACK
from strokes.errors import NotDone

MOST = 1000000000


class Ended(NotDone):
    """A run ends ahead of its last statement; this is caught where the run is done."""


def within(number):
    """Return a number that a run may have, which ends with "number" at any other one."""
    if abs(number) > MOST:
        raise Ended("number")
    return number


def add(first, second):
    """Return the sum."""
    return within(first + second)


def subtract(first, second):
    """Return the difference."""
    return within(first - second)


def multiply(first, second):
    """Return the product."""
    return within(first * second)


def divide(first, second):
    """Return the quotient, rounded down."""
    if second == 0:
        raise Ended("divide")
    return first // second


def remain(first, second):
    """Return what is left, with the sign of the second number."""
    if second == 0:
        raise Ended("divide")
    return first % second


def is_less(first, second):
    """Return 1 if the first number is less than the second one, else 0."""
    return int(first < second)


def is_at_most(first, second):
    """Return 1 if the first number is not greater than the second one, else 0."""
    return int(first <= second)


def is_equal(first, second):
    """Return 1 if the numbers are equal, else 0."""
    return int(first == second)


def is_unlike(first, second):
    """Return 1 if the numbers are not equal, else 0."""
    return int(first != second)


JOINING = {
    "+": add, "-": subtract, "*": multiply, "/": divide, "mod": remain,
    "<": is_less, "<=": is_at_most, "=": is_equal, "!=": is_unlike,
}


def joined_number(mark, first, second):
    """Return what a mark makes of two numbers."""
    action = JOINING[mark]
    return action(first, second)


def truth(number):
    """Return 1 for each number unlike 0, else 0."""
    return int(number != 0)


def negative(number):
    """Return a number with the other sign."""
    return -number


def denial(number):
    """Return 0 for each number unlike 0, else 1."""
    return int(number == 0)


# What orders make of two numbers and of one.
OF_TWO = {
    "add": add, "sub": subtract, "mul": multiply, "div": divide, "mod": remain,
    "lt": is_less, "le": is_at_most, "eq": is_equal, "ne": is_unlike,
}
OF_ONE = {"neg": negative, "not": denial, "truth": truth}


def made_of_two(word, first, second):
    """Return what an order makes of two numbers."""
    action = OF_TWO[word]
    return action(first, second)


def made_of_one(word, number):
    """Return what an order makes of a number."""
    action = OF_ONE[word]
    return action(number)


def cell(picture, row, column):
    """Return 1 if the cell in a row and a column, counted from 1, is black, else 0."""
    if not 1 <= row <= len(picture) or not 1 <= column <= len(picture[0]):
        raise Ended("range")
    return int(picture[row - 1][column - 1] == BLACK)


def row_line(picture, row):
    """Return the line of a row that is counted from 1."""
    if not 1 <= row <= len(picture):
        raise Ended("range")
    return row - 1


def column_line(picture, column):
    """Return the line of a column that is counted from 1."""
    if not 1 <= column <= len(picture[0]):
        raise Ended("range")
    return len(picture) + column - 1
