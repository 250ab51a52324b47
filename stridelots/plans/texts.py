"""The turnings of rows of deeds, and plans as texts."""

from stridelots.boards.cells import cells_many
from stridelots.boards.texts import is_name
from stridelots.books.doing import done
from stridelots.books.rules import all_deeds
from stridelots.errors import NoPlan
from stridelots.plans.turnings import Turning

FIGURES = "0123456789"
MOST_TIMES = 10 ** 18
MOST_FIGURES = 19


def turning_of(board, book, deeds):
    """The Turning of a row of deeds, or NoDeed."""
    cells = cells_many(board)
    # The number of a cell serves as the name of the thing that stands on it.
    told = done(board, book, tuple([(cell, 0) for cell in range(cells)]), deeds)
    goes = [0] * cells
    turns = [0] * cells
    for place, (cell, face) in enumerate(told):
        goes[cell] = place
        turns[cell] = face
    return Turning(tuple(goes), tuple(turns))


def read_plans(board, book, text):
    """A triple (name, Turning, number of deeds) for each plan that the text tells, or NoPlan."""
    plans = {}
    for row, line in enumerate(text.split("\n")):
        name = _name_told(line)
        plan = _plan_told(board, book, line, plans)
        if name is None or name in plans or plan is None:
            raise NoPlan(row)
        plans[name] = plan
    return tuple([(name, turning, many) for name, (turning, many) in plans.items()])


def _name_told(line):
    """The name that the row gives its plan, or None."""
    # Not split(): it would skip words without signs.
    word = line.split(" ")[0]
    name = word.removesuffix(":")
    if name == word or not is_name(name):
        return None
    return name


def _plan_told(board, book, line, plans):
    """The Turning and number of deeds of all words behind the row's first, or None."""
    words = line.split(" ")[1:]
    if not words:
        return None
    turning = turning_of(board, book, ())
    many = 0
    for word in words:
        told = _word_told(board, book, word, plans)
        if told is None:
            return None
        turning = turning.behind(told[0])
        many = many + told[1]
    return turning, many


def _word_told(board, book, word, plans):
    """The Turning and number of deeds of the word, or None."""
    base, star, figures = word.partition("*")
    times = _number_told(figures) if star == "*" else 1
    told = _base_told(board, book, base, plans)
    if times is None or told is None:
        return None
    turning, many = told
    return turning.often(times), many * times


def _base_told(board, book, base, plans):
    """The Turning and number of deeds of a word without its times, or None."""
    if "@" in base:
        rule, _, cell = base.partition("@")
        deed = (_number_told(rule), _number_told(cell))
        if deed not in all_deeds(board, book):
            return None
        return turning_of(board, book, (deed,)), 1
    name = base.removeprefix("-")
    if name not in plans:
        return None
    turning, many = plans[name]
    if base != name:
        return turning.turned_back(), many
    return turning, many


def _number_told(figures):
    """The number that the figures tell, or None; none is greater than MOST_TIMES."""
    if not 1 <= len(figures) <= MOST_FIGURES:
        return None
    # Not isdigit: it lets signs beyond 0 to 9 by.
    if not all([sign in FIGURES for sign in figures]):
        return None
    if figures != "0" and figures.startswith("0"):
        return None
    number = int(figures)
    if number > MOST_TIMES:
        return None
    return number
