"""A press puts orders of a code that stand behind one another together."""

from strokes.arithmetic import OF_ONE, OF_TWO, Ended, made_of_one, made_of_two
from strokes.codes import LEADING

MAKING_TRUTH = ("not", "truth", "lt", "le", "eq", "ne", "black")


def is_leading(word):
    """Return whether the number of an order with a word is a place of the code."""
    return word in LEADING or word == "call"


def told_anew(orders, moved):
    """Return the code of a list of orders, given the new place for each place to which they lead."""
    found = []
    for word, number in orders:
        if is_leading(word):
            found.append((word, moved[number]))
        else:
            found.append((word, number))
    return tuple(found)


class Press:
    """The orders that are kept of those ahead of a place, and where places of the code have moved to."""

    def __init__(self, value):
        self.orders = value
        self.kept = []
        self.moved = []
        # The places among the kept orders, and that behind them, to which orders lead.
        self.led = {}

    def pressed(self):
        """Return the code whose orders are put together wherever they can be."""
        leads = {number: True for word, number in self.orders if is_leading(word)}
        for place, order in enumerate(self.orders):
            if place in leads:
                self.led[len(self.kept)] = True
            self.moved.append(len(self.kept))
            self.kept.append(order)
            while self.is_put_together(place + 1):
                # What came of the last orders may go together with those ahead of them.
                pass
        return told_anew(self.kept, self.moved)

    def is_put_together(self, behind):
        """Put the last kept orders together if they can be, the next place being told; return whether they could."""
        # A place that has moved behind the last kept order stays there; what goes then, goes next time.
        if self.kept[-1] == ("jump", behind) and len(self.kept) not in self.led:
            self.kept.pop()
            return True
        if not self.is_free(1):
            return False
        word, number = self.kept[-1]
        if word == "truth" and self.kept[-2][0] in MAKING_TRUTH:
            self.kept.pop()
            return True
        if self.kept[-2][0] != "push":
            return False
        return self.is_worked_out(word, number)

    def is_free(self, many):
        """Return whether no order leads to one of the last so many kept orders, and others stand ahead of them."""
        length = len(self.kept)
        return length > many and not any([place in self.led for place in range(length - many, length)])

    def is_worked_out(self, word, number):
        """Put the last kept order, told here, together with numbers pushed ahead of it; return whether it could be."""
        pushed = self.kept[-2][1]
        if word in OF_ONE:
            self.kept[-2:] = [("push", made_of_one(word, pushed))]
            return True
        if word in ("zero", "some"):
            is_jump = (pushed == 0) == (word == "zero")
            self.kept[-2:] = [("jump", number)] if is_jump else []
            return True
        if word not in OF_TWO or not self.is_free(2) or self.kept[-3][0] != "push":
            return False
        try:
            made = made_of_two(word, self.kept[-3][1], pushed)
        except Ended:
            return False
        self.kept[-3:] = [("push", made)]
        return True
