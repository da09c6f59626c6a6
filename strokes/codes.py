"""Codes of programs, and their texts."""

from strokes.arithmetic import MOST
from strokes.boards import is_integer
from strokes.checks import good_tree
from strokes.coders import Coder
from strokes.errors import BadCode, InvalidText
from strokes.words import check_text, is_number

COUNTED = ("load", "store", "tick", "frame")
LEADING = ("jump", "zero", "some")
NUMBERED = ("push", "load", "store", "tick", "frame", "jump", "zero", "some", "call")
PLAIN = (
    "copy", "rows", "cols", "black", "add", "sub", "mul", "div", "mod", "lt", "le", "eq", "ne", "neg", "not", "truth",
    "row", "col", "say", "back", "stop", "done",
)
LAST = ("done", "stop", "back", "jump")
LEAST_ORDERS = 2
MOST_ORDERS = 50000
MOST_COUNT = 50000
MOST_FIGURES = 10


def code(text):
    """Return the code of a good program."""
    return Coder().program(good_tree(text))


def orders(text):
    """Return the number of orders of a program's code."""
    return len(code(text))


def is_code(value):
    """Return whether any value is a code."""
    if not isinstance(value, tuple) or not LEAST_ORDERS <= len(value) <= MOST_ORDERS:
        return False
    if not all([is_order(order) for order in value]):
        return False
    if value[0][0] != "frame" or value[-1][0] not in LAST:
        return False
    return all([has_its_number(value, word, number) for word, number in value])


def write_code(value):
    """Return the text of a code."""
    check_code(value)
    return "\n".join([written_order(word, number) for word, number in value])


def read_code(text):
    """Return the code of a text."""
    check_text(text)
    found = []
    place = 1
    for line in text.split("\n"):
        order = order_of(line)
        if order is None:
            raise InvalidText(place)
        found.append(order)
        place += len(line) + 1
    value = tuple(found)
    check_code(value)
    return value


def check_code(value):
    """Raise BadCode if a value is no code."""
    if not is_code(value):
        raise BadCode()


def is_order(value):
    """Return whether any value is a pair of a word that there is and an integer."""
    if not isinstance(value, tuple) or len(value) != 2:
        return False
    word, number = value
    return (word in NUMBERED or word in PLAIN) and is_integer(number)


def has_its_number(value, word, number):
    """Return whether an order of a code that may be one has a number that its word allows."""
    if word == "push":
        return -MOST <= number <= MOST
    if word in COUNTED:
        return 0 <= number <= MOST_COUNT
    if word == "call":
        return 0 <= number < len(value) and value[number][0] == "frame"
    if word in LEADING:
        return 0 <= number < len(value)
    return number == 0


def written_order(word, number):
    """Return the line of an order."""
    if word in NUMBERED:
        return word + " " + str(number)
    return word


def order_of(line):
    """Return the order that a line is, None for a line that is none as it is written."""
    if line in PLAIN:
        return line, 0
    word, space, signs = line.partition(" ")
    if word in NUMBERED and is_written(signs):
        return word, int(signs)
    return None


def is_written(signs):
    """Return whether signs are a number as it is written, with a minus ahead below 0."""
    if signs[:1] == "-":
        return is_number(signs[1:], MOST_FIGURES) and signs != "-0"
    return is_number(signs, MOST_FIGURES)
