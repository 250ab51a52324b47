"""How many standings can come."""

from math import factorial

from stridelots.signs.rows import lots_within
from stridelots.signs.turns import are_unlike
from stridelots.webs.marks import is_even, kinds_by_class


def many_led(board, book, standing):
    """How many standings deeds lead to from the standing, itself, too."""
    kinds = kinds_by_class(board, book, standing)
    even = is_even(board, book)
    many = 1
    for row in kinds:
        many = many * _orders_many(row)
        if not even:
            # The faces of all things but one are free; this one's makes their sum even or odd as it was.
            many = many << (len(row) - 1)
    fixed = [number for number, row in enumerate(kinds) if are_unlike(row)]
    # Each lot of these classes lets by only what has an even sum of signs in it: one half of all.
    return many >> len(lots_within(board, book, fixed))


def _orders_many(kinds):
    """In how many orders the kinds can stand."""
    many = factorial(len(kinds))
    for at, kind in enumerate(kinds):
        # At the last place of each kind: by its number of orders.
        if kind not in kinds[at + 1:]:
            many = many // factorial(kinds.count(kind))
    return many
