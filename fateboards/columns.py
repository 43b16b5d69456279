"""Columns of cells that are 0 or 1, as integers: the first row's cell is the greatest figure, as tuples are ordered."""


class ColumnStepper:
    """Tells what a step makes of the inner cells of a column, many, between two others; each is two cells longer."""

    def __init__(self, rule, many):
        self.many = many
        self.later_cells = _later_cells(rule)

    def later(self, left, middle, right):
        """The inner cells of the middle column behind a step, 1 for each that is living."""
        column = 0
        for row in range(self.many):
            around = (left >> row & 7) << 6 | (middle >> row & 7) << 3 | right >> row & 7
            column |= self.later_cells[around] << row
        return column


def _later_cells(rule):
    """What a step makes of a cell, by the nine figures of the cells in three columns around it."""
    births, stays = rule[:2]
    later = []
    for around in range(512):
        alive = around >> 4 & 1
        many = f"{around:b}".count("1") - alive
        later.append(1 if many in (stays if alive == 1 else births) else 0)
    return later


def column_of(cells):
    """The integer of a column's cells."""
    column = 0
    for cell in cells:
        column = column << 1 | cell
    return column


def cells_of(column, many):
    """The tuple of a column's cells, of which there are many."""
    return tuple([column >> row & 1 for row in range(many - 1, -1, -1)])
