"""Programs on all starts of small boards."""

from strokes.boards import BLACK, WHITE, check_board, check_picture
from strokes.checks import all_statements, good_tree
from strokes.codes import code
from strokes.effects import GOOD_ENDS, STAYING, made_table, normal_form
from strokes.errors import TooGreat
from strokes.goals import fewest
from strokes.machines import numbers_begun
from strokes.peels import peeled
from strokes.processors import Processor
from strokes.runs import Run, check_ticks

MOST_CELLS = 9


def ends(text, rows, columns, ticks):
    """Return the ascending tuple of the triples (picture, end, number of the starts whose runs end so)."""
    plays = plays_of(text, rows, columns, ticks)
    counted = counts([(play.picture, play.end) for start, play in plays])
    return tuple([(picture, end, many) for (picture, end), many in counted])


def sayings(text, rows, columns, ticks):
    """Return the ascending tuple of the pairs (numbers said, number of the starts whose runs say so)."""
    plays = plays_of(text, rows, columns, ticks)
    return tuple(counts([tuple(play.said) for start, play in plays]))


def always_makes(text, goal, ticks):
    """Return None if the runs of all starts end well and with a picture, otherwise the least start of which not."""
    for start, play in plays_towards(text, goal, ticks):
        if play.end not in GOOD_ENDS or play.picture != goal:
            return start
    return None


def makes_best(text, goal, ticks):
    """Return None if the runs of all starts make a picture with fewest strokes, or if it does not come paint nothing.

    Otherwise the answer is the least start of which not. All runs have to end well, too.
    """
    for start, play in plays_towards(text, goal, ticks):
        few = fewest(start, goal)
        is_best = not play.lines
        if few is not None:
            is_best = play.picture == goal and len(play.lines) == few
        if play.end not in GOOD_ENDS or not is_best:
            return start
    return None


def parting(text, other, rows, columns, ticks):
    """Return the least start at which the runs of two programs differ in picture or end, None if there is none."""
    tree = good_tree(text)
    other_tree = good_tree(other)
    check_small(rows, columns, ticks)
    for start in all_pictures(rows, columns):
        one = ended_run(tree, start, ticks)
        two = ended_run(other_tree, start, ticks)
        if one.picture != two.picture or one.end != two.end:
            return start
    return None


def most_strokes(text, rows, columns, ticks):
    """Return the pair (greatest number of strokes, least start with it)."""
    most = None
    for start, play in plays_of(text, rows, columns, ticks):
        if most is None or len(play.lines) > most[0]:
            most = (len(play.lines), start)
    return most


def never_begun(text, rows, columns, ticks):
    """Return the ascending list of the numbers of the statements that no start's run begins."""
    tree = good_tree(text)
    check_small(rows, columns, ticks)
    value = code(text)
    begun = {}
    for start in all_pictures(rows, columns):
        begun.update(numbers_begun(Processor(value, start, ticks)))
    return [number for number in range(len(all_statements(tree))) if number not in begun]


def as_effect(text, rows, columns, ticks):
    """Return the effect that a program has from all starts, None if there is none or a run ends otherwise than well."""
    plays = plays_of(text, rows, columns, ticks)
    if not all([play.end in GOOD_ENDS for start, play in plays]):
        return None
    signs = [sign_of_cell(plays, row, column) for row in range(rows) for column in range(columns)]
    if None in signs:
        return None
    return effect_with(rows, columns, picture_of(signs, columns))


def effect_of_table(rows, columns, value):
    """Return the effect with a table, None for other values and for tables of no effect."""
    check_board(rows, columns)
    check_cells(rows, columns)
    if not has_size(rows, columns, value):
        return None
    return effect_with(rows, columns, value)


def plays_of(text, rows, columns, ticks):
    """Return the list of the pairs (start, ended run) for all starts of a board, the least start first."""
    tree = good_tree(text)
    check_small(rows, columns, ticks)
    return [(start, ended_run(tree, start, ticks)) for start in all_pictures(rows, columns)]


def plays_towards(text, goal, ticks):
    """Return the list of the pairs (start, ended run) for all starts of a picture's board, the least start first."""
    good_tree(text)
    check_picture(goal)
    return plays_of(text, len(goal), len(goal[0]), ticks)


def ended_run(tree, start, ticks):
    """Return the run of a program from a start, ended."""
    play = Run(tree, start, ticks)
    play.go()
    return play


def check_small(rows, columns, ticks):
    """Raise an error if values are no small board and no number of ticks."""
    check_board(rows, columns)
    check_ticks(ticks)
    check_cells(rows, columns)


def check_cells(rows, columns):
    """Raise TooGreat if a board has more cells than are worked on."""
    if rows * columns > MOST_CELLS:
        raise TooGreat(MOST_CELLS)


def counts(things):
    """Return the ascending list of the pairs (thing, how often it stands in a list)."""
    many = {}
    for thing in things:
        many[thing] = many.get(thing, 0) + 1
    return [(thing, many[thing]) for thing in sorted(many)]


def all_pictures(rows, columns):
    """Return the ascending list of all pictures of a board."""
    # The black sign comes ahead of the white one.
    found = [[]]
    for _ in range(rows * columns):
        found = [signs + [sign] for signs in found for sign in (BLACK, WHITE)]
    return [picture_of(signs, columns) for signs in found]


def picture_of(signs, columns):
    """Return the tuple of the rows of a list of signs."""
    text = "".join(signs)
    return tuple([text[at:at + columns] for at in range(0, len(text), columns)])


def sign_of_cell(plays, row, column):
    """Return what runs from all starts make of a cell as a table tells it, None if no sign tells it."""
    made = {play.picture[row][column]: True for start, play in plays}
    if len(made) == 1:
        return list(made)[0]
    if all([play.picture[row][column] == start[row][column] for start, play in plays]):
        return STAYING
    return None


def has_size(rows, columns, value):
    """Return whether any value is a tuple of strings with a sign for each cell of a board."""
    if not isinstance(value, tuple) or len(value) != rows:
        return False
    return all([isinstance(row, str) and len(row) == columns for row in value])


def effect_with(rows, columns, signs):
    """Return the effect with a table of any signs, None if there is none."""
    # What can be taken away first was painted last; a sign of no color hinders the lines of its cell.
    lines = [line for layer in peeled(signs)[::-1] for line in layer]
    if made_table(rows, columns, lines) != signs:
        return None
    return normal_form(rows, columns, lines)
