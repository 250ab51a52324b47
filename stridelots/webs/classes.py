"""Classes of cells."""

from stridelots.webs.ties import bends_from, ties_by_cell


def classes_of(board, book):
    """The classes of cells that hang together by ties, in the order of their first cells."""
    return classes_by_ties(ties_by_cell(board, book))


def classes_by_ties(ties):
    """The classes of a book with these ties by cell."""
    classes = []
    seen = {}
    for cell in range(len(ties)):
        if cell not in seen:
            found = sorted(bends_from(ties, cell))
            classes.append(tuple(found))
            for one in found:
                seen[one] = True
    return tuple(classes)
