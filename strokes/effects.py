"""Effects: what lists of strokes do to every picture of a board."""

from itertools import permutations
from math import factorial

from strokes.boards import WHITE, check_board, check_like_boards, check_picture, check_strokes, is_line, with_lines
from strokes.checks import good_tree, looks
from strokes.errors import BadEffect, NotBlind, NotDone, TooMany
from strokes.peels import peeled, unpeeled_cells
from strokes.runs import check_ticks, run

STAYING = "-"
MOST_LISTS = 500
GOOD_ENDS = ("done", "stopped")


def normal(rows, columns, strokes):
    """Return the effect of a list of lines, in normal form."""
    check_board(rows, columns)
    check_strokes(rows, columns, strokes)
    return normal_form(rows, columns, strokes)


def is_effect(rows, columns, value):
    """Return whether any value is an effect of a board, in normal form."""
    check_board(rows, columns)
    if not isinstance(value, tuple) or not all([is_line(rows, columns, line) for line in value]):
        return False
    return normal_form(rows, columns, value) == value


def table(rows, columns, strokes):
    """Return the tuple of strings that tell what a list of lines makes of each cell, - if it stays."""
    check_board(rows, columns)
    check_strokes(rows, columns, strokes)
    return made_table(rows, columns, strokes)


def layers(rows, columns, effect):
    """Return the tuple of the layers of an effect, the first painted first."""
    check_effect(rows, columns, effect)
    return tuple([tuple(layer) for layer in layers_of(rows, effect)])


def act(picture, effect):
    """Return the picture that an effect makes of a picture."""
    check_picture(picture)
    check_effect(len(picture), len(picture[0]), effect)
    return with_lines(picture, effect)


def product(rows, columns, one, other):
    """Return the effect of one effect and another one behind it."""
    check_effect(rows, columns, one)
    check_effect(rows, columns, other)
    return normal_form(rows, columns, one + other)


def hides(rows, columns, one, other):
    """Return whether one effect behind another one is the one."""
    check_effect(rows, columns, one)
    check_effect(rows, columns, other)
    return normal_form(rows, columns, other + one) == one


def shortest_lists(rows, columns, effect):
    """Return the number of the shortest lists of strokes with an effect."""
    check_effect(rows, columns, effect)
    return count_orders(rows, effect)


def same_table(rows, columns, strokes):
    """Return the ascending list of the shortest lists of strokes with the effect of a list."""
    effect = normal(rows, columns, strokes)
    if count_orders(rows, effect) > MOST_LISTS:
        raise TooMany(MOST_LISTS)
    found = [[]]
    for layer in layers_of(rows, effect):
        found = [ahead + list(order) for ahead in found for order in permutations(layer)]
    return found


def always(rows, columns, effect):
    """Return the picture that an effect makes of every start, None if starts tell."""
    check_effect(rows, columns, effect)
    made = made_table(rows, columns, effect)
    if any([STAYING in row for row in made]):
        return None
    return made


def effect_for(goal):
    """Return the effect that makes a picture of every start, None if there is none."""
    check_picture(goal)
    found = peeled(goal)
    if unpeeled_cells(goal, found):
        return None
    lines = [line for layer in found[::-1] for line in layer]
    return normal_form(len(goal), len(goal[0]), lines)


def brings(start, goal, effect):
    """Return whether an effect makes a picture of a start."""
    check_picture(start)
    check_picture(goal)
    check_effect(len(start), len(start[0]), effect)
    check_like_boards(start, goal)
    return with_lines(start, effect) == goal


def program_of(rows, columns, effect):
    """Return the text of a program with an effect, a stroke in a line."""
    check_effect(rows, columns, effect)
    return "\n".join([stroke_text(rows, line) for line in effect])


def effect_of(text, rows, columns, ticks):
    """Return the effect of a program that does not look."""
    good_tree(text)
    check_board(rows, columns)
    check_ticks(ticks)
    check_blind(text)
    return effect_of_blind(text, rows, columns, ticks)


def alike(text, other, rows, columns, ticks):
    """Return whether two programs that do not look do the same to every picture."""
    good_tree(text)
    good_tree(other)
    check_board(rows, columns)
    check_ticks(ticks)
    check_blind(text)
    check_blind(other)
    effect = effect_of_blind(text, rows, columns, ticks)
    return effect == effect_of_blind(other, rows, columns, ticks)


def check_effect(rows, columns, value):
    """Raise an error if a value is no effect of a board, or if there is no such board."""
    if not is_effect(rows, columns, value):
        raise BadEffect()


def check_blind(text):
    """Raise NotBlind if a program looks."""
    if looks(text):
        raise NotBlind()


def normal_form(rows, columns, lines):
    """Return the normal form of a list or a tuple of lines of a board."""
    seen = {}
    kept = []
    rows_later = columns_later = 0
    for line in lines[::-1]:
        if line not in seen:
            seen[line] = True
            if line < rows:
                rows_later += 1
                shows = columns_later < columns
            else:
                columns_later += 1
                shows = rows_later < rows
            if shows:
                kept.append(line)
    return tuple([line for layer in layers_of(rows, kept[::-1]) for line in sorted(layer)])


def layers_of(rows, lines):
    """Return the list of the lists of lines of one sort that stand next to one another."""
    found = []
    for line in lines:
        if found and (found[-1][0] < rows) == (line < rows):
            found[-1].append(line)
        else:
            found.append([line])
    return found


def made_table(rows, columns, lines):
    """Return the tuple of strings that tell what lines of a board make of each cell."""
    return with_lines((STAYING * columns,) * rows, lines)


def count_orders(rows, effect):
    """Return the number of the orders in which the lines of an effect's layers can be painted."""
    many = 1
    for layer in layers_of(rows, effect):
        many *= factorial(len(layer))
    return many


def stroke_text(rows, line):
    """Return the text of a statement that paints a line."""
    if line < rows:
        return "row " + str(line + 1)
    return "col " + str(line - rows + 1)


def effect_of_blind(text, rows, columns, ticks):
    """Return the effect of a program that is known not to look."""
    # Such a program does the same at every start, so any one tells all.
    start = (WHITE * columns,) * rows
    picture, lines, spoken, end = run(text, start, ticks)
    if end not in GOOD_ENDS:
        raise NotDone(end)
    return normal_form(rows, columns, lines)
