"""A processor does the orders of a code one behind another."""

from strokes.arithmetic import OF_ONE, OF_TWO, Ended, cell, column_line, made_of_one, made_of_two, row_line
from strokes.boards import with_line
from strokes.runs import MOST_CALLS

MOST_IDLE = 100000


class Processor:
    """A run of a code: its board, what the machine of codes keeps, and the ticks that are left."""

    def __init__(self, value, picture, ticks):
        self.orders = value
        self.picture = picture
        self.ticks = ticks
        self.at = 0
        self.stack = []
        self.slots = []
        # The places and slots to which calls come back, the last call's last.
        self.below = []
        self.lines = []
        self.said = []
        self.count = 0
        # The number of orders done since the last tick.
        self.idle = 0
        # The number of the statement that began last.
        self.number = None
        self.end = ""

    def go(self):
        """Do orders until the run ends."""
        while self.end == "":
            self.do_next()

    def do_next(self):
        """Do an order of a run that has not ended."""
        word, number = self.orders[self.at]
        self.at += 1
        self.count += 1
        self.idle += 1
        try:
            self.do_order(word, number)
            if self.idle == MOST_IDLE:
                raise Ended("broken")
        except Ended as ended:
            self.end = ended.end

    def do_order(self, word, number):
        """Do what an order tells."""
        if word in OF_TWO:
            second = self.take()
            self.stack.append(made_of_two(word, self.take(), second))
        elif word in OF_ONE:
            self.stack.append(made_of_one(word, self.take()))
        else:
            action = ACTIONS[word]
            action(self, number)

    def take(self):
        """Take the uppermost number of the stack."""
        if not self.stack:
            raise Ended("broken")
        return self.stack.pop()

    def paint(self, line):
        """Paint a line of the board."""
        self.picture = with_line(self.picture, line)
        self.lines.append(line)

    def next_statement(self):
        """Return the number of the statement whose tick order is the next one, None if another order is."""
        word, number = self.orders[self.at]
        if word == "tick":
            return number
        return None

    def state(self):
        """Return all on which it depends how the run goes on, but for ticks."""
        below = [(place, tuple(slots)) for place, slots in self.below]
        return self.at, tuple(self.stack), tuple(self.slots), tuple(below), self.picture

    def mark(self):
        """Return what has to be known to go back to here."""
        counted = (self.ticks, self.count, self.idle, self.number, len(self.lines), len(self.said))
        return self.state(), counted

    def go_back(self, mark):
        """Go back to a mark at which the run had not ended."""
        state, counted = mark
        self.at, stack, slots, below, self.picture = state
        self.stack = list(stack)
        self.slots = list(slots)
        self.below = [(place, list(kept)) for place, kept in below]
        self.ticks, self.count, self.idle, self.number, lines, said = counted
        del self.lines[lines:]
        del self.said[said:]
        self.end = ""


def push(play, number):
    """Lay the number of the order."""
    play.stack.append(number)


def load(play, number):
    """Lay the number of a slot."""
    if number >= len(play.slots) or play.slots[number] is None:
        raise Ended("broken")
    play.stack.append(play.slots[number])


def store(play, number):
    """Take the number of a slot."""
    if number >= len(play.slots):
        raise Ended("broken")
    play.slots[number] = play.take()


def copy_uppermost(play, number):
    """Lay the uppermost number once more."""
    uppermost = play.take()
    play.stack.extend([uppermost, uppermost])


def lay_rows(play, number):
    """Lay the number of rows."""
    play.stack.append(len(play.picture))


def lay_columns(play, number):
    """Lay the number of columns."""
    play.stack.append(len(play.picture[0]))


def look(play, number):
    """Lay 1 or 0 for the cell in a row and a column."""
    column = play.take()
    play.stack.append(cell(play.picture, play.take(), column))


def paint_row(play, number):
    """Paint a row."""
    play.paint(row_line(play.picture, play.take()))


def paint_column(play, number):
    """Paint a column."""
    play.paint(column_line(play.picture, play.take()))


def say(play, number):
    """Say a number."""
    play.said.append(play.take())


def jump(play, number):
    """Go on at a place."""
    play.at = number


def jump_at_zero(play, number):
    """Go on at a place if the number that is taken is 0."""
    if play.take() == 0:
        play.at = number


def jump_at_some(play, number):
    """Go on at a place if the number that is taken is not 0."""
    if play.take() != 0:
        play.at = number


def tick(play, number):
    """Use a tick and begin a statement."""
    if play.ticks == 0:
        raise Ended("limit")
    play.ticks -= 1
    play.idle = 0
    play.number = number


def call(play, number):
    """Go on at a place, keeping what to come back to."""
    if len(play.below) == MOST_CALLS:
        raise Ended("depth")
    play.below.append((play.at, play.slots))
    play.at = number


def make_frame(play, number):
    """Make new slots without numbers."""
    play.slots = [None] * number


def come_back(play, number):
    """Come back from a call."""
    if not play.below:
        raise Ended("broken")
    play.at, play.slots = play.below.pop()


def stop(play, number):
    """End the run as stop does."""
    raise Ended("stopped")


def finish(play, number):
    """End the run behind the last statement."""
    raise Ended("done")


ACTIONS = {
    "push": push, "load": load, "store": store, "copy": copy_uppermost, "rows": lay_rows, "cols": lay_columns,
    "black": look, "row": paint_row, "col": paint_column, "say": say, "jump": jump, "zero": jump_at_zero,
    "some": jump_at_some, "tick": tick, "call": call, "frame": make_frame, "back": come_back, "stop": stop,
    "done": finish,
}
