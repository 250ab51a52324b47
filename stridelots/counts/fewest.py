"""The fewest deeds from one standing to another, and how many standings take how many."""

from stridelots.counts.codes import code_of, codes_beside, moves_of
from stridelots.counts.many import many_led
from stridelots.errors import Barred, TooMany
from stridelots.papers.barred import barred

MOST_SEEN = 3000


def fewest(board, book, one, other, *, most=MOST_SEEN):
    """The first row of the fewest deeds from the one standing to the other; or Barred, TooMany."""
    paper = barred(board, book, one, other)
    if paper is not None:
        raise Barred(paper)
    _need_few(board, book, one, most)
    names = _names_in(one)
    goal = code_of(other, names)
    level = [code_of(one, names)]
    moves = moves_of(board, book)
    # For each code the one ahead of it and the number of the move between them.
    ahead = {level[0]: None}
    while goal not in ahead:
        level = _next_level(level, moves, ahead)
    row = []
    while ahead[goal] is not None:
        goal, at = ahead[goal]
        row.append(moves[at][0])
    return tuple(row[::-1])


def steps_of(board, book, standing, *, most=MOST_SEEN):
    """How many standings take just 0, 1, 2, .. deeds at the fewest, to the last that is not 0; or TooMany."""
    _need_few(board, book, standing, most)
    level = [code_of(standing, _names_in(standing))]
    moves = moves_of(board, book)
    ahead = {level[0]: None}
    steps = []
    while level:
        steps.append(len(level))
        level = _next_level(level, moves, ahead)
    return tuple(steps)


def _need_few(board, book, standing, most):
    """None where at most so many standings can come, else TooMany."""
    many = many_led(board, book, standing)
    if many > most:
        raise TooMany(many)


def _names_in(standing):
    """The names of the standing's things, each once."""
    return sorted(set([name for name, _ in standing]))


def _next_level(level, moves, ahead):
    """The codes that one more deed leads to for the first time, noted in ahead.

    The level is in the order of the first rows of deeds to its codes; so are the new ones, and what is noted
    is the end of such a row.
    """
    found = []
    for code in level:
        for at, behind in enumerate(codes_beside(code, moves)):
            if behind not in ahead:
                ahead[behind] = (code, at)
                found.append(behind)
    return found
