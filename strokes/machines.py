"""Runs of codes, and what a program's code tells of its run."""

from strokes.boards import check_picture
from strokes.codes import check_code, code
from strokes.processors import Processor
from strokes.runs import check_ticks


def execute(value, picture, ticks):
    """Return (picture at the end, lines painted, numbers said, end) of a code's run."""
    play = ended(value, picture, ticks)
    return play.picture, tuple(play.lines), tuple(play.said), play.end


def orders_done(value, picture, ticks):
    """Return the number of orders that a code's run does, the one that ends it included."""
    return ended(value, picture, ticks).count


def round_of(text, picture, ticks):
    """Return how a run goes round: the ticks used ahead of the round and in it, None if the run ends before."""
    play = begun(text, picture, ticks)
    used_at = {}
    while play.end == "":
        if play.next_statement() is not None:
            state = play.state()
            used = ticks - play.ticks
            if state in used_at:
                return used_at[state], used - used_at[state]
            used_at[state] = used
        play.do_next()
    return None


def statements_run(text, picture, ticks):
    """Return the ascending list of the numbers of the statements that a run begins."""
    return sorted(numbers_begun(begun(text, picture, ticks)))


def ended(value, picture, ticks):
    """Return the run of a code that has ended."""
    check_code(value)
    check_picture(picture)
    check_ticks(ticks)
    play = Processor(value, picture, ticks)
    play.go()
    return play


def begun(text, picture, ticks):
    """Return the run of a program's code at its beginning."""
    value = code(text)
    check_picture(picture)
    check_ticks(ticks)
    return Processor(value, picture, ticks)


def numbers_begun(play):
    """Do a run to its end; return a dict of the numbers of the statements that it begins."""
    numbers = {}
    while play.end == "":
        play.do_next()
        if play.number is not None:
            numbers[play.number] = True
    return numbers
