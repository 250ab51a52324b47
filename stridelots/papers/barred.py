"""Papers told of two standings."""

from stridelots.papers.faces import down_parted
from stridelots.signs.rows import lots_within
from stridelots.signs.turns import turning_signs
from stridelots.webs.classes import classes_of
from stridelots.webs.marks import is_even, kinds_by_class


def barred(board, book, one, other):
    """A paper that no deeds lead from one standing to the other, or None where some do."""
    paper = _lack(board, book, one, other)
    if paper is None:
        paper = _faces(board, book, one, other)
    if paper is None:
        paper = _turns(board, book, one, other)
    return paper


def _lack(board, book, one, other):
    """The paper of a kind that stands in a class not as often in both, or None."""
    both = list(zip(kinds_by_class(board, book, one), kinds_by_class(board, book, other)))
    for number, (kinds, goals) in enumerate(both):
        for kind in kinds:
            # Both lists are as long: where a kind stands more often in goals, another one stands less often.
            if kinds.count(kind) != goals.count(kind):
                return "lack", number, kind
    return None


def _faces(board, book, one, other):
    """The paper of a class in which deeds do not make an odd number of things face down, or None."""
    if is_even(board, book):
        return None
    for number, cells in enumerate(classes_of(board, book)):
        if down_parted(cells, one, other):
            return "faces", number
    return None


def _turns(board, book, one, other):
    """The paper of classes that no deeds turn so, where each kind stands as often in both; or None."""
    signs = turning_signs(board, book, one, other)
    fixed = [number for number, sign in enumerate(signs) if sign is not None]
    # The signs are a sum of sign rows just where no lot within these classes has an odd sum of them.
    for lot in lots_within(board, book, fixed):
        numbers = [number for number in fixed if lot[number] == 1]
        if sum([signs[number] for number in numbers]) % 2 == 1:
            return "turns", tuple(numbers)
    return None
