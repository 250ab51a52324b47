"""Boards seen in lines: the rows or columns in which lots that are exchanged stand one behind the other."""

from stridelots.boards.cells import high_and_wide
from stridelots.books.rules import lot_of


class Lines:
    """The lines of a board for one of a book's rules: columns for under, rows for all others."""

    def __init__(self, board, book, number):
        high, wide = high_and_wide(board)
        h, w = lot_of(book[number])
        self.number = number
        if book[number][0] == "under":
            self.many, self.line_step, self.lot_lines = wide, 1, w
            self.cells, self.cell_step, self.lot_cells = high, wide, h
        else:
            self.many, self.line_step, self.lot_lines = high, wide, h
            self.cells, self.cell_step, self.lot_cells = wide, 1, w
        # How many places in a line have a deed both there and one cell on.
        self.begins = self.cells - 2 * self.lot_cells
        if board[0] == "ring":
            self.begins = self.cells

    def cell(self, line, at):
        """The cell at this place in the line; behind a ring's last place they are counted on round."""
        return line * self.line_step + at % self.cells * self.cell_step

    def three(self, line, at):
        """The cells that the deeds at this place and one cell on lead round, in the order in which they do."""
        return self.cell(line, at), self.cell(line, at + 2 * self.lot_cells), self.cell(line, at + self.lot_cells)

    def deeds_alone(self, line, at):
        """Deeds that lead the three cells at this place of the line round, and change nothing else."""
        low, high = self.lot_lines - 1, self.many - self.lot_lines
        if line < low:
            return self._deeds_in(line, low, at) + self._deeds_in(line + 1, low, at)[::-1]
        if line > high:
            return self._deeds_in(high, line, at) + self._deeds_in(high, line - 1, at)[::-1]
        return self._deeds_in(line, line, at)

    def _deeds_in(self, low, high, at):
        """Deeds that lead the three cells at this place round in just the lines from low to high."""
        ahead = high - self.lot_lines + 1
        one = (self.number, self.cell(ahead, at))
        other = (self.number, self.cell(low, at + 1))
        if ahead == low:
            return [one, other]
        # Lines that only one of both deeds touches see it twice. In the others the two lead round
        # twice: that is once back, so they stand here in the other order.
        return [other, one, other, one]
