"""Even books, the marks of their cells, and the kinds of things."""

from stridelots.errors import NotEven
from stridelots.webs.classes import classes_by_ties
from stridelots.webs.ties import bends_from, ties_by_cell


def is_even(board, book):
    """Whether cells can have marks: unlike ones over bent ties, like ones over others."""
    return _marks_found(ties_by_cell(board, book)) is not None


def marks_of(board, book):
    """The mark of each cell, that of each class's first cell 0; or NotEven."""
    marks = _marks_found(ties_by_cell(board, book))
    if marks is None:
        raise NotEven("the book is not even")
    return marks


def kinds_of(board, book, standing):
    """The kind of the thing on each cell: (name, mark) in an even book, else the name."""
    return _kinds_by_ties(ties_by_cell(board, book), standing)


def kinds_by_class(board, book, standing):
    """For each class the list of the kinds of the things on its cells."""
    ties = ties_by_cell(board, book)
    kinds = _kinds_by_ties(ties, standing)
    return [[kinds[cell] for cell in cells] for cells in classes_by_ties(ties)]


def _kinds_by_ties(ties, standing):
    """The kind of the thing on each cell, in a book with these ties by cell."""
    marks = _marks_found(ties)
    if marks is None:
        return tuple([name for name, _ in standing])
    return tuple([(name, (face + mark) % 2) for (name, face), mark in zip(standing, marks)])


def _marks_found(ties):
    """The marks, or None where some tie is against them."""
    marks = {}
    for cells in classes_by_ties(ties):
        # One way to each cell tells the only mark that it can have.
        marks.update(bends_from(ties, cells[0]))
    for cell, others in enumerate(ties):
        for other, bent in others:
            if (marks[cell] + bent) % 2 != marks[other]:
                return None
    return tuple([marks[cell] for cell in range(len(ties))])
