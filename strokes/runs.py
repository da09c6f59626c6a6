"""Runs of programs by their trees."""

from strokes.arithmetic import Ended, add, cell, column_line, joined_number, row_line, truth
from strokes.boards import check_picture, is_integer, with_line
from strokes.checks import good_tree
from strokes.errors import BadNumber
from strokes.shapes import unrolled

MOST_TICKS = 20000
MOST_CALLS = 30


def run(text, picture, ticks):
    """Return a run's (picture at the end, lines painted, numbers said, end)."""
    play = played(text, picture, ticks)
    return play.picture, tuple(play.lines), tuple(play.said), play.end


def ticks_of(text, picture, ticks):
    """Return the number of ticks that a run uses."""
    return ticks - played(text, picture, ticks).ticks


def played(text, picture, ticks):
    """Return the run of a program that has ended."""
    tree = good_tree(text)
    check_picture(picture)
    check_ticks(ticks)
    play = Run(tree, picture, ticks)
    play.go()
    return play


def check_ticks(value):
    """Raise BadNumber if a value is no number of ticks with which a run may begin."""
    if not is_integer(value) or not 0 <= value <= MOST_TICKS:
        raise BadNumber()


class Run:
    """A run of a program: its board, its names, the ticks that are left, and what is to be done next."""

    def __init__(self, tree, picture, ticks):
        definitions, statements = tree
        self.told = {name: (arguments, block) for name, arguments, block in definitions}
        self.picture = picture
        self.lines = []
        self.said = []
        self.ticks = ticks
        self.names = {}
        self.depth = 0
        self.end = ""
        # Statements and what stands behind blocks, the next one last. (Calls would go too deep for this.)
        self.waiting = []
        self.put(statements)

    def put(self, block):
        """Let a block be what is done next."""
        self.waiting.extend(block[::-1])

    def go(self):
        """Do all until the run ends."""
        try:
            while self.waiting:
                self.do_next()
            self.end = "done"
        except Ended as ended:
            self.end = ended.end

    def do_next(self):
        """Begin a statement, or do what stands behind a block."""
        task = self.waiting.pop()
        if task[0] in BEHIND:
            action = BEHIND[task[0]]
        else:
            self.tick()
            action = STATEMENTS[task[0]]
        action(self, task)

    def tick(self):
        """Use a tick."""
        if self.ticks == 0:
            raise Ended("limit")
        self.ticks -= 1

    def paint(self, line):
        """Paint a line of the board."""
        self.picture = with_line(self.picture, line)
        self.lines.append(line)

    def value(self, expression):
        """Return the number that an expression has."""
        tree, joined = unrolled(expression)
        number = self.part_value(tree)
        for mark, first, second in joined:
            if mark in ("and", "or"):
                if truth(number) == int(mark == "and"):
                    number = self.value(second)
                number = truth(number)
            else:
                number = joined_number(mark, number, self.value(second))
        return number

    def part_value(self, tree):
        """Return the number that an expression has that no mark joins."""
        word = tree[0]
        if word == "num":
            return tree[1]
        if word == "name":
            return self.names[tree[1]]
        if word == "rows":
            return len(self.picture)
        if word == "cols":
            return len(self.picture[0])
        if word == "black":
            row = self.value(tree[1])
            return cell(self.picture, row, self.value(tree[2]))
        if word == "neg":
            return -self.value(tree[1])
        return 1 - truth(self.value(tree[1]))


def paint_row(play, statement):
    """Do a row statement."""
    play.paint(row_line(play.picture, play.value(statement[1])))


def paint_column(play, statement):
    """Do a col statement."""
    play.paint(column_line(play.picture, play.value(statement[1])))


def say(play, statement):
    """Do a say statement."""
    play.said.append(play.value(statement[1]))


def let(play, statement):
    """Do a let statement."""
    play.names[statement[1]] = play.value(statement[2])


def choose(play, statement):
    """Do an if statement."""
    if play.value(statement[1]) != 0:
        play.put(statement[2])
    else:
        play.put(statement[3])


def begin_while(play, statement):
    """Do the test of a while statement and what follows from it."""
    if play.value(statement[1]) != 0:
        play.waiting.append(("again", statement))
        play.put(statement[2])


def go_again(play, task):
    """Do what stands behind the block of a while statement."""
    play.tick()
    begin_while(play, task[1])


def begin_for(play, statement):
    """Begin a for statement."""
    first = play.value(statement[2])
    begin_turn(play, statement, first, play.value(statement[3]))


def begin_turn(play, statement, number, last):
    """Do the test of a for statement and what follows from it."""
    if number <= last:
        play.names[statement[1]] = number
        play.waiting.append(("next", statement, number, last))
        play.put(statement[4])


def go_to_next(play, task):
    """Do what stands behind the block of a for statement."""
    word, statement, number, last = task
    number = add(number, 1)
    play.tick()
    begin_turn(play, statement, number, last)


def call(play, statement):
    """Do a do statement."""
    numbers = [play.value(expression) for expression in statement[2]]
    if play.depth == MOST_CALLS:
        raise Ended("depth")
    arguments, block = play.told[statement[1]]
    play.depth += 1
    play.waiting.append(("back", play.names))
    play.names = dict(zip(arguments, numbers))
    play.put(block)


def come_back(play, task):
    """Do what stands behind the block of a definition."""
    play.depth -= 1
    play.names = task[1]


def stop(play, statement):
    """Do a stop statement."""
    raise Ended("stopped")


STATEMENTS = {
    "row": paint_row, "col": paint_column, "say": say, "let": let, "if": choose, "while": begin_while,
    "for": begin_for, "do": call, "stop": stop,
}
BEHIND = {"again": go_again, "next": go_to_next, "back": come_back}
