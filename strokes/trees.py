"""Programs: their trees, the places of their statements, and programs printed anew."""

from strokes.readers import Reader
from strokes.shapes import COMPARING, LEVEL_OF, PARTS, blocks_of, expressions_of, level_of, unrolled

INDENT = "  "


def read(text):
    """Return the tree of a program, the pair (definitions, statements)."""
    return Reader(text).program()


def places(text):
    """Return the list of the places, counted from 1, at which the statements begin."""
    reader = Reader(text)
    reader.program()
    return reader.places


def tidy(text):
    """Return a program printed anew."""
    definitions, statements = read(text)
    lines = []
    for name, arguments, block in definitions:
        lines.append("def " + name + "(" + ", ".join(arguments) + ") {")
        lines.extend(block_lines(block, INDENT))
        lines.append("}")
    lines.extend(block_lines(statements, ""))
    return "\n".join(lines)


def block_lines(block, indent):
    """Return the list of the lines of a block, each of which begins with an indent."""
    lines = []
    for statement in block:
        lines.extend(statement_lines(statement, indent))
    return lines


def statement_lines(statement, indent):
    """Return the list of the lines of a statement, each of which begins with an indent."""
    blocks = blocks_of(statement)
    if not blocks:
        return [indent + head(statement)]
    lines = [indent + head(statement) + " {"]
    lines.extend(block_lines(blocks[0], indent + INDENT))
    if statement[0] == "if" and blocks[1]:
        lines.append(indent + "} else {")
        lines.extend(block_lines(blocks[1], indent + INDENT))
    lines.append(indent + "}")
    return lines


def head(statement):
    """Return the text of a statement without its blocks."""
    word = statement[0]
    shown = [shown_expression(expression) for expression in expressions_of(statement)]
    if word == "do":
        return "do " + statement[1] + "(" + ", ".join(shown) + ")"
    if word in ("let", "for"):
        return word + " " + statement[1] + " = " + " to ".join(shown)
    return " ".join([word] + shown)


def shown_expression(expression):
    """Return the text of an expression."""
    tree, joined = unrolled(expression)
    pieces = [shown_part(tree)]
    for outer in joined:
        level = LEVEL_OF[outer[0]]
        # Marks of a level may stand in a row and join from the left, but comparisons may not.
        if level_of(tree) < level + int(level == COMPARING):
            pieces.insert(0, "(")
            pieces.append(")")
        pieces.append(" " + outer[0] + " " + shown_from(outer[2], level + 1))
        tree = outer
    return "".join(pieces)


def shown_part(tree):
    """Return the text of an expression that no mark joins."""
    word = tree[0]
    if word == "num":
        return str(tree[1])
    if word == "name":
        return tree[1]
    if word == "neg":
        return "-" + shown_from(tree[1], PARTS)
    if word == "not":
        return "not " + shown_from(tree[1], COMPARING)
    if word == "black":
        return "black(" + shown_expression(tree[1]) + ", " + shown_expression(tree[2]) + ")"
    return word


def shown_from(expression, level):
    """Return the text of an expression where those of a level and the ones above it need no brackets."""
    shown = shown_expression(expression)
    if level_of(expression) < level:
        return "(" + shown + ")"
    return shown
