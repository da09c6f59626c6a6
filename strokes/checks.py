"""Good programs, statements that cannot be reached, looks and sizes."""

from strokes.errors import MayBeUnset, UnknownName, WrongCount
from strokes.shapes import blocks_of, expressions_in, expressions_of, statements_in, statements_told
from strokes.trees import read
from strokes.words import words

ZERO = ("num", 0)


def check(text):
    """Raise an error if a text is no good program."""
    good_tree(text)


def is_good(text):
    """Return whether a text that can be read is a good program."""
    tree = read(text)
    try:
        check_tree(tree)
    except (UnknownName, WrongCount, MayBeUnset):
        return False
    return True


def unreached(text):
    """Return the ascending list of the numbers of the statements that cannot be reached."""
    walk = Walk(good_tree(text))
    walk.go()
    return [number for number, reached in enumerate(walk.reached) if not reached]


def looks(text):
    """Return whether black stands anywhere in a program."""
    good_tree(text)
    return ("key", "black") in words(text)


def sizes(text):
    """Return the triple of the numbers of definitions, statements and expressions of a program."""
    tree = good_tree(text)
    definitions, statements = tree
    every = all_statements(tree)
    expressions = 0
    for statement in every:
        for expression in expressions_of(statement):
            expressions += len(expressions_in(expression))
    return len(definitions), len(every), expressions


def good_tree(text):
    """Return the tree of a good program."""
    tree = read(text)
    check_tree(tree)
    return tree


def all_statements(tree):
    """Return the list of the statements of a program and of its definitions, in the order of the text."""
    definitions, statements = tree
    return statements_told(definitions) + statements_in(statements)


def check_tree(tree):
    """Raise an error if a tree is not that of a good program."""
    check_calls(tree)
    definitions, statements = tree
    for name, arguments, block in definitions:
        names_behind(block, {argument: True for argument in arguments})
    names_behind(statements, {})


def check_calls(tree):
    """Raise an error if a call has no definition or another number of expressions than that has arguments."""
    definitions, statements = tree
    counts = {name: len(arguments) for name, arguments, block in definitions}
    for statement in all_statements(tree):
        if statement[0] == "do":
            name = statement[1]
            if name not in counts:
                raise UnknownName(name)
            if len(statement[2]) != counts[name]:
                raise WrongCount(name)


def names_behind(block, known):
    """Return the names that are set behind a block, None if no way leads on, given those that are set ahead of it."""
    known = dict(known)
    for statement in block:
        for expression in expressions_of(statement):
            check_names(expression, known)
        if statement[0] == "let":
            known[statement[1]] = True
        else:
            known = names_behind_blocks(statement, known)
        if known is None or ends_all(statement):
            return None
    return known


def names_behind_blocks(statement, known):
    """Return the names that are set behind the blocks of a statement, None if no way leads on."""
    if statement[0] == "for":
        inner = dict(known)
        inner[statement[1]] = True
        names_behind(statement[4], inner)
    if statement[0] == "while":
        names_behind(statement[2], known)
    if statement[0] != "if":
        return known
    ways = [names_behind(block, known) for block in blocks_of(statement)]
    ways = [way for way in ways if way is not None]
    if not ways:
        return None
    return {name: True for name in ways[0] if name in ways[-1]}


def check_names(expression, known):
    """Raise an error if an expression uses a name that is not set."""
    for tree in expressions_in(expression):
        if tree[0] == "name" and tree[1] not in known:
            raise MayBeUnset(tree[1])


def ends_all(statement):
    """Return whether a statement is stop or a while on a written number unlike 0."""
    if statement[0] == "while":
        return is_written(statement[1]) and statement[1] != ZERO
    return statement[0] == "stop"


def is_written(expression):
    """Return whether an expression is a written number alone."""
    return expression[0] == "num"


class Walk:
    """A walk along all ways of a program, which tells what statements are reached."""

    def __init__(self, tree):
        definitions, statements = tree
        self.reached = [False for statement in all_statements(tree)]
        self.told = {}
        self.waiting = [(statements, len(statements_told(definitions)))]
        number = 0
        for name, arguments, block in definitions:
            self.told[name] = (block, number)
            number += len(statements_in(block))

    def go(self):
        """Walk through the program and each definition that is called."""
        while self.waiting:
            block, number = self.waiting.pop()
            self.leads_through(block, number)

    def leads_through(self, block, number):
        """Walk through a block whose first statement has a number; return whether a way leads on behind it."""
        for statement in block:
            self.reached[number] = True
            if statement[0] == "do" and statement[1] in self.told:
                # A definition is walked through once.
                self.waiting.append(self.told.pop(statement[1]))
            if not self.leads_on(statement, number):
                return False
            number += len(statements_in((statement,)))
        return True

    def leads_on(self, statement, number):
        """Walk through the blocks of a statement that has a number; return whether a way leads on behind it."""
        ways = []
        number += 1
        for block, is_way in zip(blocks_of(statement), ways_of(statement)):
            if is_way:
                ways.append(self.leads_through(block, number))
            number += len(statements_in(block))
        if statement[0] == "if":
            return any(ways)
        return not ends_all(statement)


def ways_of(statement):
    """Return the tuple of what tells, for each block of a statement, whether a way leads into it."""
    if statement[0] == "if" and is_written(statement[1]):
        return statement[1] != ZERO, statement[1] == ZERO
    if statement[0] == "while":
        return (statement[1] != ZERO,)
    return True, True
