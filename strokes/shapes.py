"""What the trees of programs are made of: blocks, statements, expressions and what stands within them."""

LEVELS = (("or",), ("and",), ("<", "<=", "=", "!="), ("+", "-"), ("*", "/", "mod"))
COMPARING = 2
PARTS = 5
LEVEL_OF = {
    "or": 0, "and": 1, "not": 2, "<": 2, "<=": 2, "=": 2, "!=": 2, "+": 3, "-": 3, "*": 4, "/": 4, "mod": 4,
}

# Of each statement but do: where its expressions begin, and where its blocks begin, which end it.
EXPRESSIONS_AT = {"row": 1, "col": 1, "say": 1, "let": 2, "if": 1, "while": 1, "for": 2, "stop": 1}
BLOCKS_AT = {"row": 2, "col": 2, "say": 2, "let": 3, "if": 2, "while": 2, "for": 4, "stop": 1, "do": 3}


def blocks_of(statement):
    """Return the tuple of the blocks of a statement; an if has two."""
    return statement[BLOCKS_AT[statement[0]]:]


def expressions_of(statement):
    """Return the tuple of the expressions of a statement that stand in no block."""
    if statement[0] == "do":
        return statement[2]
    return statement[EXPRESSIONS_AT[statement[0]]:BLOCKS_AT[statement[0]]]


def statements_in(block):
    """Return the list of the statements in a block and in its blocks, in the order of the text."""
    found = []
    for statement in block:
        found.append(statement)
        for inner in blocks_of(statement):
            found.extend(statements_in(inner))
    return found


def statements_told(definitions):
    """Return the list of the statements in all definitions, in the order of the text."""
    found = []
    for name, arguments, block in definitions:
        found.extend(statements_in(block))
    return found


def expressions_in(expression):
    """Return the list of an expression and of those within it, those that stand beside one another from the left."""
    found = []
    # A long sum is a deep tree: to walk it by calls would go too deep.
    waiting = [expression]
    while waiting:
        tree = waiting.pop()
        found.append(tree)
        if tree[0] not in ("num", "name"):
            waiting.extend(tree[:0:-1])
    return found


def level_of(expression):
    """Return the level of an expression, 0 for the one that binds least."""
    return LEVEL_OF.get(expression[0], PARTS)


def unrolled(expression):
    """Return the pair of what an expression begins with and the list of the trees that join more to it.

    The trees come from the innermost, whose first expression is what it begins with, to the expression itself. (A
    long sum is a deep tree on its first side alone: who goes along this list need not go deep.)
    """
    joined = []
    while expression[0] in LEVEL_OF and expression[0] != "not":
        joined.append(expression)
        expression = expression[1]
    joined.reverse()
    return expression, joined
