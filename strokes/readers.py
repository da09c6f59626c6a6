"""A reader goes through the words of a text and makes the tree of its program."""

from strokes.errors import InvalidText
from strokes.shapes import COMPARING, LEVELS, PARTS
from strokes.words import placed_words

STATEMENTS = ("row", "col", "say", "let", "if", "while", "for", "do", "stop")
# A program may nest 30 deep. Some more are read, whatever counts as one, but not so many that calls go too deep.
MOST_NESTS = 40


class Reader:
    """The words of a text, the index of the next one, and the places of the statements that began ahead of it."""

    def __init__(self, text):
        self.told = placed_words(text)
        self.told.append(("end", "", len(text) + 1))
        self.at = 0
        self.nests = 0
        self.places = []

    def kind(self):
        """Return the kind of the next word, "end" behind the last one."""
        return self.told[self.at][0]

    def word(self):
        """Return the next word, "" behind the last one."""
        return self.told[self.at][1]

    def place(self):
        """Return the place of the next word."""
        return self.told[self.at][2]

    def taken(self):
        """Return the next word and go behind it."""
        word = self.word()
        self.at += 1
        return word

    def passes(self, word):
        """Go behind the next word if it is the one that is told; return whether it is."""
        if self.word() != word:
            return False
        self.at += 1
        return True

    def must_pass(self, word):
        """Go behind the next word, which must be the one that is told."""
        if not self.passes(word):
            raise InvalidText(self.place())

    def name(self):
        """Read a name."""
        if self.kind() != "name":
            raise InvalidText(self.place())
        return self.taken()

    def go_in(self):
        """Begin a block, bracket, minus sign, look or not."""
        if self.nests == MOST_NESTS:
            raise InvalidText(self.place())
        self.nests += 1

    def come_out(self):
        """End a block, bracket, minus sign, look or not."""
        self.nests -= 1

    def program(self):
        """Read all words: definitions, then statements."""
        definitions = []
        names = {}
        while self.passes("def"):
            if self.word() in names:
                raise InvalidText(self.place())
            definition = self.definition()
            names[definition[0]] = True
            definitions.append(definition)
        statements = self.statements()
        if self.kind() != "end":
            raise InvalidText(self.place())
        return tuple(definitions), statements

    def definition(self):
        """Read a definition behind its def."""
        name = self.name()
        arguments = self.arguments()
        return name, arguments, self.block()

    def arguments(self):
        """Read the names of arguments in brackets."""
        self.must_pass("(")
        names = []
        if self.word() != ")":
            names.append(self.name())
            while self.passes(","):
                names.append(self.name())
        if len(set(names)) < len(names):
            # Told at the closing bracket, where any other word cannot stand either.
            raise InvalidText(self.place())
        self.must_pass(")")
        return tuple(names)

    def block(self):
        """Read a block."""
        self.go_in()
        self.must_pass("{")
        statements = self.statements()
        self.must_pass("}")
        self.come_out()
        return statements

    def statements(self):
        """Read as many statements as there are."""
        found = []
        while self.word() in STATEMENTS:
            found.append(self.statement())
        return tuple(found)

    def statement(self):
        """Read a statement."""
        self.places.append(self.place())
        word = self.taken()
        if word in ("row", "col", "say"):
            return word, self.expression()
        if word == "let":
            return word, *self.set_name()
        if word == "if":
            return word, self.expression(), self.block(), self.other_block()
        if word == "while":
            return word, self.expression(), self.block()
        if word == "for":
            return word, *self.set_name(), self.last_value(), self.block()
        if word == "do":
            return word, self.name(), self.passed()
        return (word,)

    def set_name(self):
        """Read the name that is set, = and an expression."""
        name = self.name()
        self.must_pass("=")
        return name, self.expression()

    def last_value(self):
        """Read to and the expression behind it."""
        self.must_pass("to")
        return self.expression()

    def other_block(self):
        """Read else and its block; return an empty block if there is no else."""
        if self.passes("else"):
            return self.block()
        return ()

    def passed(self):
        """Read the expressions of a call in brackets."""
        self.must_pass("(")
        found = []
        if self.word() != ")":
            found.append(self.expression())
            while self.passes(","):
                found.append(self.expression())
        self.must_pass(")")
        return tuple(found)

    def expression(self):
        """Read an expression."""
        return self.joined(0)

    def joined(self, level):
        """Read an expression of a level."""
        if level == PARTS:
            return self.part()
        if level == COMPARING and self.word() == "not":
            return self.denied()
        tree = self.joined(level + 1)
        while self.word() in LEVELS[level]:
            mark = self.taken()
            tree = (mark, tree, self.joined(level + 1))
            if level == COMPARING:
                # Two comparisons may not stand in a row.
                break
        return tree

    def denied(self):
        """Read not and what stands behind it."""
        self.go_in()
        word = self.taken()
        tree = (word, self.joined(COMPARING))
        self.come_out()
        return tree

    def part(self):
        """Read a part."""
        if self.kind() == "number":
            return "num", int(self.taken())
        if self.kind() == "name":
            return "name", self.taken()
        if self.word() in ("rows", "cols"):
            return (self.taken(),)
        if self.word() not in ("black", "-", "("):
            raise InvalidText(self.place())
        self.go_in()
        tree = self.nest()
        self.come_out()
        return tree

    def nest(self):
        """Read a look, a minus with its part, or an expression in brackets."""
        word = self.taken()
        if word == "-":
            return "neg", self.part()
        if word == "black":
            self.must_pass("(")
        first = self.expression()
        if word == "(":
            self.must_pass(")")
            return first
        self.must_pass(",")
        second = self.expression()
        self.must_pass(")")
        return word, first, second
