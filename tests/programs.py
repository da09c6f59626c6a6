"""What several tests use: boards, texts, and programs made by dice that fall the same way each time."""

import itertools

from strokes.errors import InvalidText, MayBeUnset, NotText, UnknownName, WrongCount

LEVELS = (("or",), ("and",), ("<", "<=", "=", "!="), ("+", "-"), ("*", "/", "mod"))
NAMES = ("a", "b", "c", "x")
OTHERS = (None, 0, 7, True, False, (), ("row 1",), [], ["row 1"], {}, {"row": 1})
NO_PICTURES = (None, 5, True, "#", ["#"], (), ("",), ("#", "##"), ("#x",), (1,), ("#" * 21,), ("#",) * 21, (("#",),),
               {}, {"#": 1}, ("#", None), (["#"],))
# Numbers of rows or columns, and of ticks.
NO_SIZES = (0, 21, -1, True, False, None, "2", (2,), [2], {})
NO_TICKS = (-1, 20001, True, False, None, "5", (5,), [5], {})


def unmarked(text):
    """Return the pair of a text without its marks @ and the list of the places, from 1, that they mark."""
    places = []
    while "@" in text:
        places.append(text.index("@") + 1)
        text = text.replace("@", "", 1)
    return text, places


def same_trees(first, second):
    """Return whether two trees are equal; trees of long sums are too deep to be compared by ==."""
    waiting = [(first, second)]
    while waiting:
        left, right = waiting.pop()
        if type(left) is not type(right):
            return False
        if isinstance(left, tuple):
            if len(left) != len(right):
                return False
            waiting.extend(zip(left, right))
        elif left != right:
            return False
    return True


def orders_of(lines):
    """Return the code of a text of orders with commas or line ends between them."""
    found = []
    for line in lines.replace("\n", ",").split(","):
        word, _, number = line.strip().partition(" ")
        if word:
            found.append((word, int(number or "0")))
    return tuple(found)


# Texts that are no good programs, with the errors that they raise and the fields of these.
BAD_TEXTS = (
    ("row 1 2", InvalidText, {"place": 7}), ("say x" + " " * 99996, InvalidText, {"place": 100001}),
    ("say x do f()", UnknownName, {"name": "f"}), ("def f() { } do f(1)", WrongCount, {"name": "f"}),
    ("say x", MayBeUnset, {"name": "x"}),
)


def assert_error(case, error, fields, function, *arguments):
    """Assert that a call raises an error of exactly this class with exactly these fields."""
    with case.subTest(function.__name__, arguments=str(arguments)[:80]):
        with case.assertRaises(error) as caught:
            function(*arguments)
        case.assertIs(type(caught.exception), error)
        case.assertEqual(vars(caught.exception), fields)


def assert_text_errors(case, function, before=(), behind=()):
    """Assert the errors of an argument that is the text of a good program, which come ahead of those behind it."""
    for value in OTHERS:
        if not isinstance(value, str):
            assert_error(case, NotText, {}, function, *before, value, *behind)
    for text, error, fields in BAD_TEXTS:
        assert_error(case, error, fields, function, *before, text, *behind)


def boards_of(cells):
    """Return the list of the pairs (rows, columns) of boards of at most so many cells."""
    return [(rows, cols) for rows in range(1, cells + 1) for cols in range(1, cells // rows + 1)]


def pictures_of(rows, columns):
    """Return the list of all pictures of a board, in ascending order."""
    found = []
    for signs in itertools.product("#.", repeat=rows * columns):
        text = "".join(signs)
        found.append(tuple(text[row * columns:(row + 1) * columns] for row in range(rows)))
    return found


def lists_without_repeats(rows, columns):
    """Return the list of all lists of lines of a board in which no line stands twice."""
    found = []
    for length in range(rows + columns + 1):
        found.extend(list(lines) for lines in itertools.permutations(range(rows + columns), length))
    return found


def painted_plainly(picture, lines):
    """Return a picture with lines painted, worked out cell by cell; its cells may be any signs."""
    cells = [list(row) for row in picture]
    for line in lines:
        for row in range(len(cells)):
            for column in range(len(cells[0])):
                if line == row:
                    cells[row][column] = "#"
                if line == len(cells) + column:
                    cells[row][column] = "."
    return tuple("".join(row) for row in cells)


class Dice:
    """Numbers that look thrown, but are the same for the same beginning."""

    def __init__(self, start):
        self.state = start * 7919 + 12345

    def below(self, most):
        """Return a number from 0 to most - 1."""
        self.state = (self.state * 6364136223846793005 + 1442695040888963407) % 2 ** 64
        return (self.state >> 33) % most

    def one_of(self, things):
        """Return one of some things."""
        return things[self.below(len(things))]


class Maker:
    """Makes trees of programs by dice, with calls that fit their definitions."""

    def __init__(self, dice, presets=True):
        self.dice = dice
        # With presets each name is set at first, so that each program is good.
        self.presets = presets
        self.counts = {}

    def program(self):
        for name in "fgh"[:self.dice.below(4)]:
            self.counts[name] = self.dice.below(3)
        definitions = []
        for name, count in self.counts.items():
            definitions.append((name, NAMES[:count], self.set_all(NAMES[count:]) + self.block(3)))
        return tuple(definitions), self.set_all(NAMES) + self.block(4)

    def set_all(self, names):
        if not self.presets:
            return ()
        return tuple(("let", name, ("num", self.dice.below(5))) for name in names)

    def block(self, depth):
        return tuple(self.statement(depth) for _ in range(self.dice.below(4)))

    def statement(self, depth):
        word = self.dice.one_of("row col say say let let if if while for do stop".split())
        if depth == 0 and word in ("if", "while", "for"):
            word = "say"
        if word == "do":
            if not self.counts:
                return ("say", self.expression(3))
            name = self.dice.one_of(sorted(self.counts))
            return ("do", name, tuple(self.expression(2) for _ in range(self.counts[name])))
        if word == "let":
            return ("let", self.dice.one_of(NAMES), self.expression(3))
        if word == "if":
            return ("if", self.test(), self.block(depth - 1), self.block(depth - 1))
        if word == "while":
            return ("while", self.test(), self.block(depth - 1))
        if word == "for":
            return ("for", self.dice.one_of(NAMES), self.expression(1), self.expression(1), self.block(depth - 1))
        if word == "stop":
            if self.dice.below(3):
                return ("say", self.expression(3))
            return ("stop",)
        if word in ("row", "col") and self.dice.below(4):
            return (word, ("num", 1 + self.dice.below(3)))
        return (word, self.expression(2))

    def test(self):
        if self.dice.below(3) == 0:
            return ("num", self.dice.below(2))
        return self.expression(3)

    def expression(self, depth):
        kind = self.dice.below(8)
        if depth == 0 or kind < 2:
            return self.leaf()
        if kind == 2:
            return ("neg", self.expression(depth - 1))
        if kind == 3:
            return ("not", self.expression(depth - 1))
        if kind == 4 and self.dice.below(3) == 0:
            return ("black", self.expression(depth - 1), self.expression(depth - 1))
        mark = self.dice.one_of(self.dice.one_of(LEVELS))
        return (mark, self.expression(depth - 1), self.expression(depth - 1))

    def leaf(self):
        kind = self.dice.below(6)
        if kind == 0:
            return ("rows",)
        if kind == 1:
            return ("cols",)
        if kind < 4:
            return ("name", self.dice.one_of(NAMES))
        return ("num", self.dice.below(4))


def bracketed(tree):
    """Return the text of an expression with brackets around whatever may have them."""
    word = tree[0]
    if word in ("num", "name"):
        return "(" + str(tree[1]) + ")"
    if word in ("rows", "cols"):
        return "(" + word + ")"
    if word == "black":
        return "(black(" + bracketed(tree[1]) + "," + bracketed(tree[2]) + "))"
    if word == "neg":
        return "(-" + bracketed(tree[1]) + ")"
    if word == "not":
        return "(not" + bracketed(tree[1]) + ")"
    return "(" + bracketed(tree[1]) + " " + word + "\n" + bracketed(tree[2]) + ")"


def written(block):
    """Return the text of a block's statements with all brackets that may stand."""
    return "\n\n".join(written_statement(statement) for statement in block)


def written_statement(statement):
    word = statement[0]
    if word == "let":
        return "let " + statement[1] + "=" + bracketed(statement[2])
    if word == "for":
        head = "for " + statement[1] + "=" + bracketed(statement[2]) + "to" + bracketed(statement[3])
        return head + "{" + written(statement[4]) + "}"
    if word == "do":
        return "do " + statement[1] + " (" + " , ".join(bracketed(tree) for tree in statement[2]) + " )"
    if word == "if":
        # An else with an empty block is the same as none.
        return "if" + bracketed(statement[1]) + "{" + written(statement[2]) + "}else{" + written(statement[3]) + "}"
    if word == "while":
        return "while" + bracketed(statement[1]) + "{" + written(statement[2]) + "}"
    if word == "stop":
        return "stop"
    return word + bracketed(statement[1])


def written_program(tree):
    """Return the text of a program with all brackets that may stand."""
    definitions, statements = tree
    texts = []
    for name, arguments, block in definitions:
        texts.append("def " + name + " ( " + " , ".join(arguments) + " ) {" + written(block) + "}")
    return " ".join(texts + [written(statements)])


def made_programs(many, presets=True):
    """Return the list of the pairs (tree, text) of so many programs."""
    found = []
    for start in range(many):
        tree = Maker(Dice(start), presets).program()
        found.append((tree, written_program(tree)))
    return found
