"""A machine that does a program's code order by order, forwards and backwards."""

from strokes.boards import is_integer
from strokes.errors import BadNumber, NothingToUndo
from strokes.machines import begun
from strokes.trees import places

ORDERS_BETWEEN_MARKS = 64


class Machine:
    """A good program's code that is done order by order."""

    def __init__(self, text, picture, ticks):
        self.play = begun(text, picture, ticks)
        self.places = places(text)
        self.stops = ()
        # What the run was like after each so many orders: to take an order back, those from there on are done again.
        self.marks = [self.play.mark()]

    def step(self):
        """Do one order, nothing once the run has ended."""
        if self.play.end == "":
            self.play.do_next()
            if self.play.count == ORDERS_BETWEEN_MARKS * len(self.marks):
                self.marks.append(self.play.mark())

    def go(self):
        """Do orders until the run ends or a statement at which going stops is next, but at least one."""
        self.step()
        while self.play.end == "" and self.play.next_statement() not in self.stops:
            self.step()

    def stop_at(self, numbers):
        """Tell the numbers of the statements at which going stops."""
        if not self.is_stops(numbers):
            raise BadNumber()
        self.stops = numbers

    def back(self):
        """Take the last order back."""
        if self.play.count == 0:
            raise NothingToUndo()
        count = self.play.count - 1
        while ORDERS_BETWEEN_MARKS * (len(self.marks) - 1) > count:
            self.marks.pop()
        self.play.go_back(self.marks[-1])
        while self.play.count < count:
            self.play.do_next()

    def where(self):
        """Return the pair (number, place in the text) of the statement that began last, None before."""
        if self.play.number is None:
            return None
        return self.play.number, self.places[self.play.number]

    def is_stops(self, value):
        """Return whether any value is an ascending tuple of numbers of statements."""
        if not isinstance(value, tuple):
            return False
        if not all([is_integer(number) and 0 <= number < len(self.places) for number in value]):
            return False
        return all([ahead < behind for ahead, behind in zip(value, value[1:])])

    @property
    def board(self):
        """The picture."""
        return self.play.picture

    @property
    def strokes(self):
        """The tuple of the lines painted."""
        return tuple(self.play.lines)

    @property
    def spoken(self):
        """The tuple of the numbers said."""
        return tuple(self.play.said)

    @property
    def pile(self):
        """The tuple of the numbers on the stack, the uppermost last."""
        return tuple(self.play.stack)

    @property
    def calls(self):
        """The number of the calls that have not come back."""
        return len(self.play.below)

    @property
    def done(self):
        """The number of the orders done."""
        return self.play.count

    @property
    def outcome(self):
        """The end of the run, "" while it goes on."""
        return self.play.end
