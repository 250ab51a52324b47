"""The ties of a book, and ways along them."""

from stridelots.boards.cells import cells_many
from stridelots.books.rules import all_deeds, bent_of, pairs_at


def ties_by_cell(board, book):
    """For each cell the pairs (other cell of a tie with it, 1 where that is bent, else 0)."""
    ties = [[] for _ in range(cells_many(board))]
    for one, other, bent in _all_ties(board, book):
        ties[one].append((other, bent))
        ties[other].append((one, bent))
    return ties


def bends_from(ties, first):
    """For each cell of the first one's class the rest at 2 of how many bent ties a way to it has."""
    bends = {first: 0}
    left = [first]
    while left:
        cell = left.pop()
        for other, bent in ties[cell]:
            if other not in bends:
                bends[other] = (bends[cell] + bent) % 2
                left.append(other)
    return bends


def _all_ties(board, book):
    """All ties as triples (cell, other cell, bent), each once."""
    # Many deeds exchange the same cells: as keys these come once.
    ties = {}
    for number, cell in all_deeds(board, book):
        rule = book[number]
        for one, other in pairs_at(board, rule, cell):
            ties[(one, other, bent_of(rule))] = True
    return list(ties)
