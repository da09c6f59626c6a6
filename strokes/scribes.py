"""A scribe writes the parts of a program that makes a goal."""

from strokes.boards import BLACK
from strokes.peels import cells_shown, crossing_line, peeled, unpeeled_cells

LETTERS = "abcdefgh"
INDENT = "  "


class Scribe:
    """The writer of what a program does for one of at most eight goals, each with names of its own."""

    def __init__(self, goal, number):
        self.goal = goal
        self.letter = LETTERS[number - 1]
        self.number = number
        self.layers = peeled(goal)
        # The names that tell whether lines have to be painted, those of the lines to be painted first at first.
        self.names = {}
        self.needs = self.lines_of_needs()

    def lines_of_needs(self):
        """Return the list of the lines of text that find out what lines have to be painted."""
        found = []
        for layer in self.layers[::-1]:
            for line in layer:
                reasons = self.reasons(line)
                # A line that shows nowhere never has to be painted.
                if reasons:
                    self.names[line] = self.name_of(line)
                    found.append("let " + self.names[line] + " = " + " or ".join(reasons))
        return found

    def reasons(self, line):
        """Return the list of the expressions any of which tells that a line has to be painted."""
        found = []
        for row, column in cells_shown(self.goal, line):
            found.append(self.difference(row, column))
            crossing = crossing_line(self.goal, line, row, column)
            if crossing in self.names:
                found.append(self.names[crossing])
        return found

    def name_of(self, line):
        """Return the name that tells whether a line has to be painted."""
        if line < len(self.goal):
            return self.letter + "r" + LETTERS[line]
        return self.letter + "c" + LETTERS[line - len(self.goal)]

    def difference(self, row, column):
        """Return the expression that tells whether a cell is unlike that of the goal."""
        look = "black(" + str(row + 1) + ", " + str(column + 1) + ")"
        if self.goal[row][column] == BLACK:
            return "not " + look
        return look

    def hindrance(self):
        """Return the expression that tells whether the goal does not come, "" if it always comes."""
        return " or ".join([self.difference(row, column) for row, column in unpeeled_cells(self.goal, self.layers)])

    def total(self):
        """Return the expression that tells the number of the lines that have to be painted."""
        return " + ".join(list(self.names.values()) or ["0"])

    def painting(self):
        """Return the list of the lines of text that paint what has to be painted."""
        found = []
        for line, name in self.names.items():
            found.extend(branch(name, [self.stroke(line)]))
        return found

    def stroke(self, line):
        """Return the statement that paints a line."""
        if line < len(self.goal):
            return "row " + str(line + 1)
        return "col " + str(line - len(self.goal) + 1)

    def way(self):
        """Return the list of the lines of text that tell the goal's number and make it, and stop."""
        return ["say " + str(self.number)] + self.needs + self.painting() + ["stop"]


def branch(test, lines):
    """Return the list of the lines of an if that has a test and lines of text in its block."""
    return ["if " + test + " {"] + [INDENT + line for line in lines] + ["}"]


def written_goal(scribe):
    """Return the lines of a program that says the fewest strokes, -1 for none, and makes a goal."""
    found = []
    if scribe.hindrance():
        found = branch(scribe.hindrance(), ["say -1", "stop"])
    return found + scribe.needs + ["say " + scribe.total()] + scribe.painting()


def written_first(scribes):
    """Return the lines of a program that says the number of the first goal that comes, 0 for none, and makes it."""
    found = []
    for scribe in scribes:
        if not scribe.hindrance():
            return found + scribe.way()
        found.extend(branch("not (" + scribe.hindrance() + ")", scribe.way()))
    return found + ["say 0"]


def written_nearest(scribes):
    """Return the lines of a program that says the number of the nearest goal that comes, 0 for none, and makes it."""
    found = ["let best = 0", "let least = rows + cols + 1"]
    for scribe in scribes:
        test = scribe.total() + " < least"
        if scribe.hindrance():
            test = "not (" + scribe.hindrance() + ") and " + test
        better = ["let best = " + str(scribe.number), "let least = " + scribe.total()]
        found.extend(scribe.needs + branch(test, better))
    found.append("say best")
    for scribe in scribes:
        if scribe.names:
            found.extend(branch("best = " + str(scribe.number), scribe.painting()))
    return found
