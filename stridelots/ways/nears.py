"""Nears: rounds of three cells in one line, each done by a few deeds of one rule."""

from stridelots.books.rules import bent_of
from stridelots.ways.lines import Lines


class Near:
    """Deeds that lead the thing on each of three cells to the next one, and change nothing else.

    It is turned over where the marks of the two cells, a dict by the cells, are unlike.
    """

    def __init__(self, cells, marks, deeds):
        self.cells = cells
        self.marks = marks
        self.deeds = deeds

    def led(self, cell, goal):
        """This one or its back: the one that leads the thing on the cell to the goal, another one of the three."""
        at = self.cells.index(cell)
        if self.cells[(at + 1) % 3] == goal:
            return self
        return Near(self.cells[::-1], self.marks, self.deeds[::-1])

    def beside(self, cell, goal):
        """The one of the three that is neither of these."""
        return [one for one in self.cells if one not in (cell, goal)][0]

    def parted(self, cell, goal):
        """1 where a thing that goes from the one cell to the other is turned over, else 0."""
        return (self.marks[cell] + self.marks[goal]) % 2

    def behind(self, spots):
        """Where things on these spots, pairs of a cell and a face, are behind it, and with which faces."""
        told = []
        for cell, face in spots:
            if cell in self.cells:
                goal = self.cells[(self.cells.index(cell) + 1) % 3]
                told.append((goal, (face + self.parted(cell, goal)) % 2))
            else:
                told.append((cell, face))
        return told


def nears_of(board, book):
    """All nears of the book, those of fewest deeds first."""
    nears = []
    for number, rule in enumerate(book):
        lines = Lines(board, book, number)
        for line in range(lines.many):
            for at in range(lines.begins):
                cells = lines.three(line, at)
                first, last, middle = cells
                # Of the three the middle one hangs by ties with both others.
                marks = {first: 0, last: 0, middle: bent_of(rule)}
                nears.append(Near(cells, marks, lines.deeds_alone(line, at)))
    return sorted(nears, key=deeds_many)


def deeds_many(near):
    """How many deeds the near takes."""
    return len(near.deeds)
