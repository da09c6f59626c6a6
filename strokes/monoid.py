"""All effects of a board: their number, their places in the ascending list of all, and those that bring a picture."""

from strokes.boards import BLACK, WHITE, check_board, check_start_and_goal, is_integer
from strokes.effects import STAYING, check_effect, made_table
from strokes.errors import BadNumber, TooMany
from strokes.peels import cells_shown, is_coming, lines_to_paint, peeled
from strokes.tallies import Tally

MOST_EFFECTS = 500


def count_effects(rows, columns):
    """Return the number of all effects of a board."""
    check_board(rows, columns)
    return Tally(rows, columns).all_effects()


def effect_at(rows, columns, index):
    """Return the effect at a place, counted from 0, of the ascending list of all."""
    check_board(rows, columns)
    tally = Tally(rows, columns)
    if not is_integer(index) or not 0 <= index < tally.all_effects():
        raise BadNumber()
    lines = []
    while index > 0:
        # What stands at the place is not the effect of these lines, which comes ahead of all that go on from it.
        index -= 1
        line = 0
        many = tally.beginning_with(lines + [line])
        while index >= many:
            index -= many
            line += 1
            many = tally.beginning_with(lines + [line])
        lines.append(line)
    return tuple(lines)


def effect_number(rows, columns, effect):
    """Return the place, counted from 0, of an effect in the ascending list of all."""
    check_effect(rows, columns, effect)
    tally = Tally(rows, columns)
    number = len(effect)
    for length, last in enumerate(effect):
        ahead = list(effect[:length])
        number += sum([tally.beginning_with(ahead + [line]) for line in range(last)])
    return number


def all_effects(rows, columns):
    """Return the ascending list of all effects of a board."""
    many = count_effects(rows, columns)
    check_many(many)
    return [effect_at(rows, columns, index) for index in range(many)]


def bringing(start, goal):
    """Return the ascending list of the effects that make a picture of a start."""
    check_start_and_goal(start, goal)
    layers = peeled(goal)
    if not is_coming(start, goal, layers):
        return []
    needed = lines_to_paint(start, goal, layers)
    choices = choices_of(goal, layers, needed)
    # Where nothing has to be painted, nothing at all may be.
    found = [] if needed else [()]
    check_many(len(found) + sum([count_sets(fixed, free) for fixed, free, ahead in choices]))
    for fixed, free, ahead in choices:
        found.extend([tuple(sorted(lines)) + ahead for lines in sets_with(fixed, free)])
    return sorted(found)


def black_share(rows, columns, effect):
    """Return the triple of the numbers of cells that an effect makes black, makes white and leaves."""
    check_effect(rows, columns, effect)
    signs = "".join(made_table(rows, columns, effect))
    return signs.count(BLACK), signs.count(WHITE), signs.count(STAYING)


def check_many(many):
    """Raise TooMany if more effects would have to be told than are told."""
    if many > MOST_EFFECTS:
        raise TooMany(MOST_EFFECTS)


def choices_of(goal, layers, needed):
    """Return the list of what may be painted to make a goal that comes, given its layers and what has to be painted.

    Each choice is a triple: the lines of a layer that have to be painted, those that may be painted too, and the
    lines of the layers ahead of it in the order of painting. All of these have to be painted if a line of the layer
    is, for it spoils a cell of each line of the layer ahead, and so on.
    """
    choices = []
    ahead = ()
    for layer in layers:
        fixed = [line for line in layer if line in needed]
        # No effect has a line that shows nowhere.
        free = [line for line in layer if line not in needed and cells_shown(goal, line)]
        if all([line in layer or line in ahead for line in needed]):
            choices.append((fixed, free, ahead))
        ahead = layer + ahead
    return choices


def count_sets(fixed, free):
    """Return the number of the sets of some lines with all of those that are fixed and any of those that are free."""
    return (1 << len(free)) - int(not fixed)


def sets_with(fixed, free):
    """Return the list of the lists of some lines with all of those that are fixed and any of those that are free."""
    found = [fixed]
    for line in free:
        found = found + [lines + [line] for lines in found]
    return [lines for lines in found if lines]
