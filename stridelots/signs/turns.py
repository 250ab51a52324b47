"""The signs of turnings, class by class."""

from stridelots.errors import NoTurning
from stridelots.webs.marks import kinds_by_class


def turning_signs(board, book, one, other):
    """For each class 0 where the turning to the other standing is even, 1 where it is odd; or NoTurning.

    None stands for a class with two things of one kind: it has turnings of both signs.
    """
    both = list(zip(kinds_by_class(board, book, one), kinds_by_class(board, book, other)))
    for number, (kinds, goals) in enumerate(both):
        if not are_same(kinds, goals):
            raise NoTurning(number)
    return tuple([sign_between(kinds, goals) for kinds, goals in both])


def are_same(kinds, goals):
    """Whether each kind stands as often in both lists."""
    return sorted(kinds) == sorted(goals)


def are_unlike(kinds):
    """Whether no kind stands twice in the list."""
    return len(set(kinds)) == len(kinds)


def sign_between(kinds, goals):
    """The sign of the turning that leads each kind to its place in goals; None where some stands twice."""
    if not are_unlike(kinds):
        return None
    places = [goals.index(kind) for kind in kinds]
    # Each exchange makes an odd number of pairs of places rise that fell, or fall that rose.
    return sum([len([late for late in places[at:] if late < place]) for at, place in enumerate(places)]) % 2
