"""A coder makes the orders of a program from its tree."""

from strokes.shapes import blocks_of, expressions_of, statements_in, statements_told, unrolled

WORDS = {
    "+": "add", "-": "sub", "*": "mul", "/": "div", "mod": "mod",
    "<": "lt", "<=": "le", "=": "eq", "!=": "ne",
}


class Coder:
    """The orders that are made, and what is known of the part of the program whose orders are being made."""

    def __init__(self):
        self.orders = []
        self.frames = {}
        # The next statement's number, the slots of names, and the lesser slot of the next for.
        self.number = 0
        self.slots = {}
        self.pair = 0

    def program(self, tree):
        """Make the orders of a program; return its code."""
        definitions, statements = tree
        self.number = len(statements_told(definitions))
        self.begin((), statements)
        self.put_block(statements)
        self.put("done")
        self.number = 0
        for name, arguments, block in definitions:
            self.frames[name] = len(self.orders)
            self.begin(arguments, block)
            for argument in arguments[::-1]:
                self.put("store", self.slots[argument])
            self.put_block(block)
            self.put("back")
        return tuple([self.finished(word, number) for word, number in self.orders])

    def finished(self, word, number):
        """Return an order as it stands in the code, where a call leads to a place instead of a name."""
        if word == "call":
            return word, self.frames[number]
        return word, number

    def begin(self, arguments, block):
        """Make the frame of a definition or of the statements of the program."""
        self.slots = {}
        for argument in arguments:
            self.slots[argument] = len(self.slots)
        pairs = 0
        for statement in statements_in(block):
            if statement[0] in ("let", "for") and statement[1] not in self.slots:
                self.slots[statement[1]] = len(self.slots)
            if statement[0] == "for":
                pairs += 1
        self.pair = len(self.slots)
        self.put("frame", self.pair + 2 * pairs)

    def put(self, word, number=0):
        """Make an order."""
        self.orders.append((word, number))

    def put_open(self, word):
        """Make an order that leads to a place not known yet; return its own place."""
        self.put(word)
        return len(self.orders) - 1

    def lead_here(self, place):
        """Let the order at a place lead to the next order."""
        self.orders[place] = (self.orders[place][0], len(self.orders))

    def put_block(self, block):
        """Make the orders of a block."""
        for statement in block:
            self.put_statement(statement)

    def put_statement(self, statement):
        """Make the orders of a statement."""
        word = statement[0]
        number = self.number
        self.number += 1
        self.put("tick", number)
        start = len(self.orders)
        for expression in expressions_of(statement):
            self.put_expression(expression)
        if word == "let":
            self.put("store", self.slots[statement[1]])
        elif word == "if":
            self.put_ways(statement)
        elif word == "while":
            self.put_turns(statement[2], number, start)
        elif word == "for":
            self.put_counted_turns(statement, number)
        elif word == "do":
            self.put("call", statement[1])
        else:
            self.put(word)

    def put_ways(self, statement):
        """Make the orders of an if behind its test."""
        block, other = blocks_of(statement)
        closed = self.put_open("zero")
        self.put_block(block)
        if other:
            behind = self.put_open("jump")
            self.lead_here(closed)
            self.put_block(other)
            self.lead_here(behind)
        else:
            self.lead_here(closed)

    def put_turns(self, block, number, start):
        """Make the orders of a while behind its test."""
        closed = self.put_open("zero")
        self.put_block(block)
        self.put("tick", number)
        self.put("jump", start)
        self.lead_here(closed)

    def put_counted_turns(self, statement, number):
        """Make the orders of a for behind its expressions."""
        lesser = self.pair
        greater = lesser + 1
        self.pair += 2
        self.put("store", greater)
        self.put("store", lesser)
        start = len(self.orders)
        self.put("load", lesser)
        self.put("load", greater)
        self.put("le")
        closed = self.put_open("zero")
        self.put("load", lesser)
        self.put("store", self.slots[statement[1]])
        self.put_block(statement[4])
        self.put("load", lesser)
        self.put("push", 1)
        self.put("add")
        self.put("store", lesser)
        self.put("tick", number)
        self.put("jump", start)
        self.lead_here(closed)

    def put_expression(self, expression):
        """Make the orders of an expression."""
        tree, joined = unrolled(expression)
        self.put_part(tree)
        for mark, first, second in joined:
            if mark == "and":
                self.put_settled(second, "zero", "mul")
            elif mark == "or":
                self.put_settled(second, "some", "add")
            else:
                self.put_expression(second)
                self.put(WORDS[mark])

    def put_settled(self, second, settling, joining):
        """Make the orders of an and or an or behind those of its first expression."""
        self.put("truth")
        self.put("copy")
        closed = self.put_open(settling)
        self.put_expression(second)
        self.put("truth")
        self.put(joining)
        self.lead_here(closed)

    def put_part(self, tree):
        """Make the orders of an expression that no mark joins."""
        word = tree[0]
        if word == "num":
            self.put("push", tree[1])
        elif word == "name":
            # A name that is never set has no slot of its own.
            self.put("load", self.slots.get(tree[1], len(self.slots)))
        else:
            for expression in tree[1:]:
                self.put_expression(expression)
            self.put(word)
