"""Climbs: ways of a class's things to three of its cells."""

from stridelots.ways.nears import deeds_many


class Climb:
    """A class of cells, in which nears lead from each cell, step by step, to the three of one near, the base."""

    def __init__(self, nears):
        """Made of all nears of the class, those of fewest deeds first."""
        shortest = [near for near in nears if deeds_many(near) == deeds_many(nears[0])]
        self.nears = nears
        # From the midst of the class the ways are short.
        self.base = shortest[len(shortest) // 2]
        self.depths = {cell: 0 for cell in self.base.cells}
        self.steps = {}
        self._grow()

    def round_deeds(self, cells):
        """Deeds that lead the thing on each of the three cells to the next one, and change nothing else."""
        deeds, spots = self._gathered([(cell, 0) for cell in cells])
        return deeds + self._base_between(spots[0], spots[1]).deeds + deeds[::-1]

    def bend(self):
        """Deeds that turn over the things on two cells of the base, and its third cell; the book is not even.

        In such a book two ways to the base differ in what they turn over, of some near's three things.
        """
        ways = [[]]
        while True:
            for way in ways:
                for near in self.nears:
                    deeds, spots = self._gathered_by(way, near)
                    still = self._still(near, spots)
                    if len(still) == 1:
                        # Round by the near and back by the base: all is on its cell, and two things are turned over.
                        back = self._base_between(spots[1], spots[0])
                        return deeds[::-1] + near.deeds + deeds + back.deeds, still[0]
            ways = [way + [near] for way in ways for near in self.nears]

    def pair_deeds(self, bend, one, other):
        """Deeds that turn over the things on the two cells, and change nothing else, by the climb's bend."""
        turn, still = bend
        deeds, spots = self._gathered([(one, 0), (other, 0)])
        more, _ = self._freed(spots, still)
        return deeds + more + turn + more[::-1] + deeds[::-1]

    def deepest_first(self):
        """All cells of the class, those of the base last."""
        return [cell for _, cell in sorted([(self.depths[cell], cell) for cell in self.depths], reverse=True)]

    def _grow(self):
        """Finds the first step of each cell."""
        level = list(self.base.cells)
        while level:
            found = []
            for goal in level:
                for near in self.nears:
                    if goal in near.cells:
                        found = found + self._joined(near, goal)
            level = found

    def _joined(self, near, goal):
        """The new ones of the near's cells: their first step is by it to the goal."""
        found = [cell for cell in near.cells if cell not in self.depths]
        for cell in found:
            self.depths[cell] = self.depths[goal] + 1
            self.steps[cell] = (goal, near)
        return found

    def _gathered_by(self, way, near):
        """Deeds that lead the things on the near's cells to the base, first by the way's nears; and the spots then."""
        deeds = []
        spots = [(cell, 0) for cell in near.cells]
        for step in way:
            deeds = deeds + step.deeds
            spots = step.behind(spots)
        more, spots = self._gathered(spots)
        return deeds + more, spots

    def _gathered(self, spots):
        """Deeds that lead the things on two or three spots to base cells, and the spots behind them."""
        deeds = []
        # The deepest go last: so no thing that is still to go stands in the way of another one.
        order = sorted([(self.depths[cell], at) for at, (cell, _) in enumerate(spots)])
        for _, at in order:
            while self.depths[spots[at][0]] > 0:
                more, spots = self._stepped(spots, spots[at][0])
                deeds = deeds + more
        return deeds, spots

    def _stepped(self, spots, cell):
        """The deeds of this cell's first step, and the spots behind them."""
        goal, near = self.steps[cell]
        beside = near.beside(cell, goal)
        # What stands on the goal goes to the cell beside, and what stands there to where the step
        # begins: of these two moves the one that leads out of the base must find nothing to move.
        deeds, spots = self._freed(spots, goal if self.depths[beside] > 0 else beside)
        step = near.led(cell, goal)
        return deeds + step.deeds, step.behind(spots)

    def _freed(self, spots, cell):
        """Deeds of the base behind which no thing of the spots stands on the cell, and the spots then."""
        taken = [one for one, _ in spots]
        if cell not in taken:
            return [], spots
        # At most two are on the base: it is led round so that its free cell's thing comes here.
        free = [one for one in self.base.cells if one not in taken][0]
        turn = self.base.led(free, cell)
        return turn.deeds, turn.behind(spots)

    def _base_between(self, spot, goal):
        """The base or its back: the one that leads the thing on the spot to the goal's cell."""
        return self.base.led(spot[0], goal[0])

    def _still(self, near, spots):
        """The base cells from which the near, done from these spots, turns over just what the base does."""
        told = []
        for at, (cell, face) in enumerate(spots):
            goal, turned = spots[(at + 1) % 3]
            by_near = face + near.parted(near.cells[at], near.cells[(at + 1) % 3]) + turned
            if by_near % 2 == self.base.parted(cell, goal):
                told.append(cell)
        return told


def climb_in(nears, cells):
    """The climb of the class with these cells, by those of the book's nears that are in it."""
    return Climb([near for near in nears if near.cells[0] in cells])


def shortened(deeds):
    """The row without deeds that undo each other at once."""
    row = []
    for deed in deeds:
        if row and row[-1] == deed:
            row.pop()
        else:
            row.append(deed)
    return tuple(row)
