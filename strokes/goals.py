"""Goals: pictures that are wished, what has to be painted to make them, and programs that do so."""

from strokes.boards import check_like_boards, check_picture, check_start_and_goal
from strokes.errors import BadGoals, TooGreat
from strokes.peels import is_coming, lines_to_paint, peeled
from strokes.scribes import Scribe, written_first, written_goal, written_nearest

MOST_LINES = 8
MOST_GOALS = 4


def layers(goal):
    """Return the tuple of the layers of a picture, ascending tuples."""
    check_picture(goal)
    return peeled(goal)


def comes(start, goal):
    """Return whether strokes make a picture of a start."""
    return shortest(start, goal) is not None


def fewest(start, goal):
    """Return the fewest strokes that make a picture of a start, None if none do."""
    lines = shortest(start, goal)
    if lines is None:
        return None
    return len(lines)


def shortest(start, goal):
    """Return the tuple of the lines that have to be painted, the first one first, None if no strokes do."""
    check_start_and_goal(start, goal)
    found = peeled(goal)
    if not is_coming(start, goal, found):
        return None
    return tuple(lines_to_paint(start, goal, found))


def program_for(goal):
    """Return the text of a program that makes a picture with the fewest strokes."""
    check_picture(goal)
    check_size(goal)
    return "\n".join(written_goal(Scribe(goal, 1)))


def program_for_first(goals):
    """Return the text of a program that makes the first of some pictures that comes."""
    return "\n".join(written_first(scribes_for(goals)))


def program_for_nearest(goals):
    """Return the text of a program that makes the one of some pictures that comes with the fewest strokes."""
    return "\n".join(written_nearest(scribes_for(goals)))


def scribes_for(goals):
    """Return the list of the scribes of goals, which are numbered from 1."""
    check_goals(goals)
    return [Scribe(goal, number) for number, goal in enumerate(goals, 1)]


def check_goals(value):
    """Raise an error if a value is no tuple of goals for which a program can be written."""
    if not isinstance(value, tuple) or not 1 <= len(value) <= MOST_GOALS:
        raise BadGoals()
    for goal in value:
        check_picture(goal)
    for goal in value:
        check_like_boards(value[0], goal)
    check_size(value[0])


def check_size(goal):
    """Raise TooGreat if a goal has more lines than a program can be written for."""
    if max(len(goal), len(goal[0])) > MOST_LINES:
        raise TooGreat(MOST_LINES)
