"""A plain machine for codes, as point 9 tells it, to compare runs of programs with runs of their codes."""

from strokes.codes import code


class End(Exception):
    """The end of a run of a code."""


class Plain:
    """A run of a code."""

    def __init__(self, value, picture, ticks):
        self.value = value
        self.cells = [[sign == "#" for sign in row] for row in picture]
        self.ticks = ticks
        self.at = 0
        self.stack = []
        self.slots = []
        self.below = []
        self.lines = []
        self.said = []
        self.begun = []
        self.count = 0
        # The states at all tick orders, in order, told as point 11 does.
        self.states = []

    def run(self):
        """Return (picture, lines, numbers said, end)."""
        try:
            while True:
                word, number = self.value[self.at]
                if word == "tick":
                    self.states.append(repr((self.at, self.stack, self.slots, self.below, self.cells)))
                self.at += 1
                self.count += 1
                getattr(self, "do_" + word)(number)
        except End as end:
            picture = tuple("".join("#" if cell else "." for cell in row) for row in self.cells)
            return picture, tuple(self.lines), tuple(self.said), str(end)

    def lay(self, number):
        assert type(number) is int
        if abs(number) > 10 ** 9:
            raise End("number")
        self.stack.append(number)

    def two(self):
        second = self.stack.pop()
        return self.stack.pop(), second

    def do_push(self, number):
        self.lay(number)

    def do_load(self, number):
        assert self.slots[number] is not None
        self.lay(self.slots[number])

    def do_store(self, number):
        assert number < len(self.slots)
        self.slots[number] = self.stack.pop()

    def do_copy(self, number):
        self.lay(self.stack[-1])

    def do_rows(self, number):
        self.lay(len(self.cells))

    def do_cols(self, number):
        self.lay(len(self.cells[0]))

    def do_black(self, number):
        row, column = self.two()
        if row not in range(1, len(self.cells) + 1) or column not in range(1, len(self.cells[0]) + 1):
            raise End("range")
        self.lay(int(self.cells[row - 1][column - 1]))

    def do_add(self, number):
        first, second = self.two()
        self.lay(first + second)

    def do_sub(self, number):
        first, second = self.two()
        self.lay(first - second)

    def do_mul(self, number):
        first, second = self.two()
        self.lay(first * second)

    def do_div(self, number):
        first, second = self.two()
        if second == 0:
            raise End("divide")
        self.lay(first // second)

    def do_mod(self, number):
        first, second = self.two()
        if second == 0:
            raise End("divide")
        self.lay(first - second * (first // second))

    def do_lt(self, number):
        first, second = self.two()
        self.lay(1 if first < second else 0)

    def do_le(self, number):
        first, second = self.two()
        self.lay(1 if first <= second else 0)

    def do_eq(self, number):
        first, second = self.two()
        self.lay(1 if first == second else 0)

    def do_ne(self, number):
        first, second = self.two()
        self.lay(1 if first != second else 0)

    def do_neg(self, number):
        self.lay(-self.stack.pop())

    def do_not(self, number):
        self.lay(0 if self.stack.pop() else 1)

    def do_truth(self, number):
        self.lay(1 if self.stack.pop() else 0)

    def do_row(self, number):
        row = self.stack.pop()
        if row not in range(1, len(self.cells) + 1):
            raise End("range")
        self.cells[row - 1] = [True] * len(self.cells[0])
        self.lines.append(row - 1)

    def do_col(self, number):
        column = self.stack.pop()
        if column not in range(1, len(self.cells[0]) + 1):
            raise End("range")
        for row in self.cells:
            row[column - 1] = False
        self.lines.append(len(self.cells) + column - 1)

    def do_say(self, number):
        self.said.append(self.stack.pop())

    def do_jump(self, number):
        self.at = number

    def do_zero(self, number):
        if self.stack.pop() == 0:
            self.at = number

    def do_some(self, number):
        if self.stack.pop() != 0:
            self.at = number

    def do_tick(self, number):
        if self.ticks == 0:
            raise End("limit")
        self.ticks -= 1
        self.begun.append(number)

    def do_call(self, number):
        if len(self.below) == 30:
            raise End("depth")
        self.below.append((self.at, self.slots))
        self.at = number

    def do_frame(self, number):
        self.slots = [None] * number

    def do_back(self, number):
        self.at, self.slots = self.below.pop()

    def do_stop(self, number):
        raise End("stopped")

    def do_done(self, number):
        assert self.stack == [] and self.below == []
        raise End("done")


def played(text, picture, ticks):
    """Return the run of a program's code, ended, and what it leads to."""
    plain = Plain(code(text), picture, ticks)
    return plain, plain.run()


def executed(text, picture, ticks):
    """Return the pair of what a run of a program's code leads to and the number of ticks it uses."""
    plain = Plain(code(text), picture, ticks)
    ended = plain.run()
    return ended, ticks - plain.ticks


def begun(text, picture, ticks):
    """Return the set of the numbers of the statements that a run of a program's code begins."""
    plain = Plain(code(text), picture, ticks)
    plain.run()
    return set(plain.begun)
