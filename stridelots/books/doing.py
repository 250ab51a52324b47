"""Deeds done on standings."""

from stridelots.books.rules import all_deeds, bent_of, pairs_at
from stridelots.errors import NoDeed


def done(board, book, standing, deeds, *, back=False):
    """The standing behind the deeds, done from the first to the last or back; or NoDeed."""
    pairs = _pairs_of_each(board, book, deeds)
    things = list(standing)
    # Each deed undoes itself, so back it is only the order that changes.
    order = deeds[::-1] if back else deeds
    for deed in order:
        number, _ = deed
        _exchange(things, pairs[deed], bent_of(book[number]))
    return tuple(things)


def _pairs_of_each(board, book, deeds):
    """The pairs of each deed in the row, by the deed; or NoDeed."""
    known = all_deeds(board, book)
    pairs = {}
    for at, deed in enumerate(deeds):
        if deed not in pairs:
            if deed not in known:
                raise NoDeed(at)
            number, cell = deed
            pairs[deed] = pairs_at(board, book[number], cell)
    return pairs


def _exchange(things, pairs, bent):
    """Exchanges the things of each pair, and turns them over where bent is 1."""
    for one, other in pairs:
        things[one], things[other] = things[other], things[one]
        if bent == 1:
            things[one] = _turned_over(things[one])
            things[other] = _turned_over(things[other])


def _turned_over(thing):
    """The thing with its other face."""
    name, face = thing
    return name, 1 - face
