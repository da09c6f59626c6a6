"""Goals are peeled: what is painted last is taken away first, layer by layer."""

from strokes.boards import BLACK, WHITE


def peeled(goal):
    """Return the tuple of the layers of a goal, ascending tuples."""
    rows_left = list(range(len(goal)))
    columns_left = list(range(len(goal[0])))
    layers = []
    while True:
        # Rows and columns can only be taken at once where no cells are left for one of them to cross.
        rows = [row for row in rows_left if all([goal[row][column] == BLACK for column in columns_left])]
        columns = [column for column in columns_left if all([goal[row][column] == WHITE for row in rows_left])]
        if rows:
            layers.append(tuple(rows))
            rows_left = [row for row in rows_left if row not in rows]
        elif columns:
            layers.append(tuple([len(goal) + column for column in columns]))
            columns_left = [column for column in columns_left if column not in columns]
        else:
            return tuple(layers)


def unpeeled_cells(goal, layers):
    """Return the list of the pairs (row, column) of the cells all of whose lines are in no layer of a goal."""
    lines = {line: True for layer in layers for line in layer}
    rows = [row for row in range(len(goal)) if row not in lines]
    columns = [column for column in range(len(goal[0])) if len(goal) + column not in lines]
    return [(row, column) for row in rows for column in columns]


def is_coming(start, goal, layers):
    """Return whether strokes make a goal, given its layers, of a start."""
    return all([start[row][column] == goal[row][column] for row, column in unpeeled_cells(goal, layers)])


def lines_to_paint(start, goal, layers):
    """Return the list of the lines that have to be painted to make a goal that comes, the last layer first."""
    found = []
    for layer in layers[::-1]:
        # Lines of a layer do not cross one another, so what the lines behind it need is known here.
        found.extend([line for line in layer if is_needed(start, goal, line, found)])
    return found


def is_needed(start, goal, line, painted):
    """Return whether a line has to be painted where lines of the layers behind it are painted."""
    for row, column in cells_shown(goal, line):
        if start[row][column] != goal[row][column] or crossing_line(goal, line, row, column) in painted:
            return True
    return False


def cells_shown(goal, line):
    """Return the list of the pairs (row, column) of the cells of a line that have its color in a goal."""
    if line < len(goal):
        return [(line, column) for column, sign in enumerate(goal[line]) if sign == BLACK]
    column = line - len(goal)
    return [(row, column) for row in range(len(goal)) if goal[row][column] == WHITE]


def crossing_line(goal, line, row, column):
    """Return the line of a cell in a row and a column that is not the one told."""
    if line < len(goal):
        return len(goal) + column
    return row
