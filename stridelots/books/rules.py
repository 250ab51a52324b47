"""Rules for a board, books of them, and their deeds."""

from stridelots.boards.cells import cells_many, high_and_wide
from stridelots.errors import NoBook, NoDeed

MOST_RULES = 4


def need_book(board, rules):
    """None where the rules are a book for the board, else NoBook."""
    if not rules:
        raise NoBook(0)
    for at, rule in enumerate(rules):
        if at >= MOST_RULES or rule in rules[:at] or not _is_rule(board, rule):
            raise NoBook(at)


def all_deeds(board, book):
    """All deeds of the book, rising."""
    return tuple([(number, cell) for number, rule in enumerate(book) for cell in _begins(board, rule)])


def pairs_of(board, book, deed):
    """The pairs of cells that the deed exchanges, or NoDeed."""
    if deed not in all_deeds(board, book):
        raise NoDeed(0)
    number, cell = deed
    return pairs_at(board, book[number], cell)


def pairs_at(board, rule, cell):
    """The pairs that the rule's deed at the cell exchanges; it is not asked whether there is one."""
    _, wide = high_and_wide(board)
    cells = cells_many(board)
    h, w = lot_of(rule)
    stride = h * wide if rule[0] == "under" else w
    lot = [cell + r * wide + c for r in range(h) for c in range(w)]
    # Only a ring's deeds pass the last cell: the cells are counted on round from 0.
    return tuple([(one % cells, (one + stride) % cells) for one in lot])


def bent_of(rule):
    """1 where the rule turns things over, else 0."""
    return rule[-1]


def lot_of(rule):
    """How many rows and columns a lot of the rule has."""
    if rule[0] == "swap":
        return 1, rule[1]
    return rule[1], rule[2]


def is_whole(part):
    """Whether the part is a whole number; a truth is none."""
    return isinstance(part, int) and not isinstance(part, bool)


def _is_rule(board, rule):
    """Whether the tuple of texts and numbers is a rule for the board that fits it."""
    if board[0] == "floor":
        words, parts = ("over", "under"), 4
    else:
        words, parts = ("swap",), 3
    if len(rule) != parts or rule[0] not in words:
        return False
    numbers = rule[1:]
    if not all([is_whole(number) for number in numbers]):
        return False
    return min(numbers[:-1]) >= 1 and numbers[-1] in (0, 1) and _fits(board, rule)


def _fits(board, rule):
    """Whether the board is great enough for the rule."""
    high, wide = high_and_wide(board)
    h, w = lot_of(rule)
    if board[0] == "ring":
        return 5 * w <= wide
    if rule[0] == "under":
        return 3 * h <= high and 2 * w - 1 <= wide
    # A row's rule fits just where over fits a floor of one row.
    return 3 * w <= wide and 2 * h - 1 <= high


def _begins(board, rule):
    """The cells at which the rule has a deed, rising."""
    high, wide = high_and_wide(board)
    if board[0] == "ring":
        return list(range(wide))
    h, w = lot_of(rule)
    if rule[0] == "under":
        rows, columns = high - 2 * h, wide - w
    else:
        rows, columns = high - h, wide - 2 * w
    return [r * wide + c for r in range(rows + 1) for c in range(columns + 1)]
