"""Deeds that lead three things round, or turn two over, and change nothing else."""

from stridelots.errors import NoPair, NoRound
from stridelots.ways.climbs import climb_in, shortened
from stridelots.ways.nears import nears_of
from stridelots.webs.classes import classes_of
from stridelots.webs.marks import is_even


def round_of(board, book, x, y, z):
    """Deeds that lead the thing on x to y, that on y to z, that on z to x; or NoRound."""
    climb = _climb_with(board, book, (x, y, z))
    if climb is None:
        raise NoRound("no three unlike cells of one class")
    return shortened(climb.round_deeds((x, y, z)))


def pair_turned(board, book, x, y):
    """Deeds that turn over the things on x and y, and change nothing else; or NoPair."""
    if is_even(board, book):
        raise NoPair("the book is even")
    climb = _climb_with(board, book, (x, y))
    if climb is None:
        raise NoPair("no two unlike cells of one class")
    return shortened(climb.pair_deeds(climb.bend(), x, y))


def _climb_with(board, book, wanted):
    """The climb of the class in which these cells are, or None where they are not unlike ones of one."""
    for cells in classes_of(board, book):
        if len(set(wanted)) == len(wanted) and all([cell in cells for cell in wanted]):
            return climb_in(nears_of(board, book), cells)
    return None
