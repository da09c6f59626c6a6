"""Boards, pictures, lines and strokes: rows are painted black, columns white."""

from strokes.errors import BadLine, BadNumber, BadPicture, BadStrokes, OtherBoard

BLACK = "#"
WHITE = "."
MOST_LINES = 20


def paint(picture, line):
    """Return the picture with a line painted."""
    check_picture(picture)
    if not is_line(len(picture), len(picture[0]), line):
        raise BadLine()
    return with_line(picture, line)


def painted(picture, strokes):
    """Return the picture with a list of lines painted one behind another."""
    check_picture(picture)
    check_strokes(len(picture), len(picture[0]), strokes)
    return with_lines(picture, strokes)


def with_lines(picture, lines):
    """Return the picture with lines painted one behind another, all of which are known to be allowed."""
    for line in lines:
        picture = with_line(picture, line)
    return picture


def with_line(picture, line):
    """Return the picture with a line painted, both of which are known to be allowed; its cells may be any signs."""
    rows = len(picture)
    if line < rows:
        return picture[:line] + (BLACK * len(picture[0]),) + picture[line + 1:]
    column = line - rows
    return tuple([row[:column] + WHITE + row[column + 1:] for row in picture])


def check_picture(value):
    """Raise BadPicture if a value is no picture."""
    if not is_picture(value):
        raise BadPicture()


def check_board(rows, columns):
    """Raise BadNumber if values are no numbers of rows and of columns of a board."""
    for value in (rows, columns):
        if not is_integer(value) or not 1 <= value <= MOST_LINES:
            raise BadNumber()


def check_strokes(rows, columns, value):
    """Raise BadStrokes if a value is no list of lines of a board."""
    if not is_strokes(rows, columns, value):
        raise BadStrokes()


def check_like_boards(one, other):
    """Raise OtherBoard if two pictures have boards of unlike sizes."""
    if len(one) != len(other) or len(one[0]) != len(other[0]):
        raise OtherBoard()


def check_start_and_goal(start, goal):
    """Raise an error if values are no pictures of like boards."""
    check_picture(start)
    check_picture(goal)
    check_like_boards(start, goal)


def is_picture(value):
    """Return whether any value is a picture."""
    if not isinstance(value, tuple) or not 1 <= len(value) <= MOST_LINES:
        return False
    for row in value:
        if not is_row(row) or len(row) != len(value[0]):
            return False
    return True


def is_row(value):
    """Return whether any value is a row of a picture."""
    if not isinstance(value, str) or not 1 <= len(value) <= MOST_LINES:
        return False
    return all(sign in (BLACK, WHITE) for sign in value)


def is_line(rows, columns, value):
    """Return whether any value is a line of a board."""
    return is_integer(value) and 0 <= value < rows + columns


def is_strokes(rows, columns, value):
    """Return whether any value is a list of lines of a board."""
    if not isinstance(value, list):
        return False
    return all([is_line(rows, columns, line) for line in value])


def is_integer(value):
    """Return whether any value is an integer."""
    # Python takes True and False for integers, the document does not.
    return isinstance(value, int) and not isinstance(value, bool)
