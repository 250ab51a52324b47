"""Turnings: where the things of all cells go, and which of them are turned over."""

from math import lcm


class Turning:
    """The thing on each cell goes to goes of it and is turned over where turns of it is 1."""

    def __init__(self, goes, turns):
        self.goes = goes
        self.turns = turns

    def __eq__(self, other):
        return isinstance(other, Turning) and self.goes == other.goes and self.turns == other.turns

    def __len__(self):
        return len(self.goes)

    def __repr__(self):
        return str(_shown(self.goes, self.turns))

    def behind(self, other):
        """The Turning of this one done, then the other."""
        goes = [other.goes[goal] for goal in self.goes]
        turns = [(turn + other.turns[goal]) % 2 for goal, turn in zip(self.goes, self.turns)]
        return Turning(tuple(goes), tuple(turns))

    def turned_back(self):
        """The Turning that leads all back behind this one."""
        return self.often(-1)

    def often(self, many):
        """The Turning of this one done so many times; below 0, of its back."""
        goes = [0] * len(self.goes)
        turns = [0] * len(self.goes)
        for ring in _rings(self.goes):
            passed = _turns_passed(ring, self.turns)
            for at, cell in enumerate(ring):
                # Going on at the ring's end counts on round, so the rounds are whole
                # rings passed; below 0 they and the place are told by their floor.
                rounds, place = divmod(at + many, len(ring))
                goes[cell] = ring[place]
                turns[cell] = (rounds * passed[-1] + passed[place] - passed[at]) % 2
        return Turning(tuple(goes), tuple(turns))

    def home(self):
        """The least number from 1 on of times behind which all is as it was."""
        many = 1
        for ring in _rings(self.goes):
            odd = sum([self.turns[cell] for cell in ring]) % 2
            # Once round an odd ring each thing is at home, but turned over.
            many = lcm(many, len(ring) * (1 + odd))
        return many

    def on(self, standing):
        """The standing behind this Turning, done on a standing."""
        things = list(standing)
        for (name, face), goal, turn in zip(standing, self.goes, self.turns):
            things[goal] = (name, (face + turn) % 2)
        return tuple(things)


def _rings(goes):
    """All rings in the order of their least cells, single cells too, each from its least cell on."""
    rings = []
    seen = {}
    for cell in range(len(goes)):
        if cell not in seen:
            ring = _ring_from(goes, cell)
            rings.append(ring)
            for one in ring:
                seen[one] = True
    return rings


def _ring_from(goes, cell):
    """The ring of the cell, from it on."""
    ring = [cell]
    while goes[ring[-1]] != cell:
        ring.append(goes[ring[-1]])
    return ring


def _turns_passed(ring, turns):
    """For each place in the ring how many cells ahead of it turn over; last, how many in all."""
    passed = [0]
    for cell in ring:
        passed.append(passed[-1] + turns[cell])
    return passed


def _shown(goes, turns):
    """The text of the rings in which something goes or is turned over."""
    texts = []
    for ring in _rings(goes):
        if len(ring) > 1 or turns[ring[0]] == 1:
            cells = [f"-{cell}" if turns[cell] == 1 else f"{cell}" for cell in ring]
            inner = " ".join(cells)
            texts.append(f"({inner})")
    if not texts:
        return "()"
    return "".join(texts)
