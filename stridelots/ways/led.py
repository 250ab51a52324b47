"""Deeds that lead from one standing to another."""

from stridelots.books.doing import done
from stridelots.errors import Barred
from stridelots.papers.barred import barred
from stridelots.signs.rows import deeds_summing
from stridelots.signs.turns import sign_between, turning_signs
from stridelots.ways.climbs import climb_in, shortened
from stridelots.ways.nears import nears_of
from stridelots.webs.classes import classes_of
from stridelots.webs.marks import kinds_by_class


def led(board, book, one, other):
    """A row of deeds that leads from the one standing to the other, or Barred."""
    paper = barred(board, book, one, other)
    if paper is not None:
        raise Barred(paper)
    if one == other:
        return ()
    # Behind these deeds rounds of three, which are even, can do the rest in each class.
    deeds = deeds_summing(board, book, turning_signs(board, book, one, other))
    classes = classes_of(board, book)
    nears = nears_of(board, book)
    climbs = [climb_in(nears, cells) for cells in classes]
    kinds = kinds_by_class(board, book, done(board, book, one, deeds))
    goals = kinds_by_class(board, book, other)
    for number, cells in enumerate(classes):
        goes = _goes(cells, kinds[number], goals[number])
        deeds = deeds + _placing_deeds(climbs[number], goes)
    now = done(board, book, one, deeds)
    for number, cells in enumerate(classes):
        deeds = deeds + _facing_deeds(climbs[number], [cell for cell in cells if now[cell] != other[cell]])
    return shortened(deeds)


def _goes(cells, kinds, goals):
    """For each cell of a class the cell to which its thing is to go: a turning that is even."""
    goes = {cell: cell for cell, kind, goal in zip(cells, kinds, goals) if kind == goal}
    free = [(cell, goal) for cell, goal in zip(cells, goals) if cell not in goes]
    for cell, kind in zip(cells, kinds):
        if cell not in goes:
            goal = [one for one, wanted in free if wanted == kind][0]
            goes[cell] = goal
            free.remove((goal, kind))
    if sign_between(cells, [goes[cell] for cell in cells]) == 1:
        one, other = _alike(cells, kinds)
        goes[one], goes[other] = goes[other], goes[one]
    return goes


def _alike(cells, kinds):
    """Two cells with things of one kind."""
    for cell, kind in zip(cells, kinds):
        first = cells[kinds.index(kind)]
        if first != cell:
            return first, cell


def _placing_deeds(climb, goes):
    """Deeds that lead the thing on each cell of the class to its goal."""
    deeds = []
    for cell in climb.deepest_first():
        if goes[cell] != cell:
            source = [one for one in goes if goes[one] == cell][0]
            beside = goes[cell]
            if beside == source:
                beside = [one for one in climb.base.cells if one != source][0]
            deeds = deeds + climb.round_deeds((source, cell, beside))
            goes[source], goes[cell], goes[beside] = goes[beside], cell, goes[cell]
    return deeds


def _facing_deeds(climb, cells):
    """Deeds that turn over the things on the cells, an even number of cells of the class."""
    if not cells:
        return []
    deeds = []
    bend = climb.bend()
    for one, other in zip(cells[::2], cells[1::2]):
        deeds = deeds + climb.pair_deeds(bend, one, other)
    return deeds
