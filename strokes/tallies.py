"""A tally counts the effects of a board by what they begin with."""

from math import comb

from strokes.effects import normal_form


class Tally:
    """The numbers of the effects of a board that begin with certain lines."""

    def __init__(self, rows, columns):
        self.rows = rows
        self.columns = columns
        self.known = {}

    def all_effects(self):
        """Return the number of all effects of the board."""
        return 1 + sum([self.beginning_with([line]) for line in range(self.rows + self.columns)])

    def beginning_with(self, lines):
        """Return the number of the effects that begin with a list of at least one line."""
        # What is hidden or out of order here stays so whatever comes behind it.
        if normal_form(self.rows, self.columns, lines) != tuple(lines):
            return 0
        last = lines[-1]
        left = [line for line in range(self.rows + self.columns) if line not in lines]
        own = [line for line in left if self.is_row(line) == self.is_row(last)]
        later = len([line for line in own if line > last])
        is_first = self.is_row(last) == self.is_row(lines[0])
        many = 0
        for more in range(later + 1):
            many += comb(later, more) * self.behind_layer(is_first, len(own) - more, len(left) - len(own))
        return many

    def is_row(self, line):
        """Return whether a line is a row."""
        return line < self.rows

    def behind_layer(self, is_first, own, crossing):
        """Return the number of the ways on behind a layer, given how many lines of its sort and how many crossing
        ones are left, and whether it is of the sort of the first layer.

        A way may end there at once. Who paints all lines that cross those of the first layer behind it hides it, so
        then there is no way.
        """
        if own == 0 and not is_first:
            return 0
        key = is_first, own, crossing
        if key not in self.known:
            many = 1
            for more in range(1, crossing + 1):
                many += comb(crossing, more) * self.behind_layer(not is_first, crossing - more, own)
            self.known[key] = many
        return self.known[key]
