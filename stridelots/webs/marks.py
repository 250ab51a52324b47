"""Even books, the marks of their cells, and the kinds of things."""

from stridelots.errors import NotEven
from stridelots.webs.classes import classes_of
from stridelots.webs.ties import bends_from, ties_by_cell


def is_even(board, book):
    """Whether cells can have marks: unlike ones over bent ties, like ones over others."""
    return _marks_found(board, book) is not None


def marks_of(board, book):
    """The mark of each cell, that of each class's first cell 0; or NotEven."""
    marks = _marks_found(board, book)
    if marks is None:
        raise NotEven("the book is not even")
    return marks


def kinds_of(board, book, standing):
    """The kind of the thing on each cell: (name, mark) in an even book, else the name."""
    marks = _marks_found(board, book)
    if marks is None:
        return tuple([name for name, _ in standing])
    return tuple([(name, (face + mark) % 2) for (name, face), mark in zip(standing, marks)])


def _marks_found(board, book):
    """The marks, or None where some tie is against them."""
    ties = ties_by_cell(board, book)
    marks = {}
    for cells in classes_of(board, book):
        # One way to each cell tells the only mark that it can have.
        marks.update(bends_from(ties, cells[0]))
    for cell, others in enumerate(ties):
        for other, bent in others:
            if (marks[cell] + bent) % 2 != marks[other]:
                return None
    return tuple([marks[cell] for cell in range(len(ties))])
