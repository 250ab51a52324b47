"""Boards, books and standings to test with, and their deeds worked out once more."""

import functools
import random
import string

ROWS = [("row", n) for n in range(3, 37)]
RINGS = [("ring", n) for n in range(5, 37)]
FLOORS = [
    ("floor", high, wide)
    for high in range(1, 37) for wide in range(1, 36 // high + 1)
]
BOARDS = ROWS + RINGS + FLOORS
GREATEST = [board for board in BOARDS if board[1] * (board[2:] or (1,))[0] == 36]


def size(board):
    return board[1] * board[2] if board[0] == "floor" else board[1]


def all_rules(board):
    """Every rule that fits the board, by the bounds that DOC.md tells."""
    n = board[1]
    if board[0] == "row":
        return [("swap", k, bent) for k in range(1, n) for bent in (0, 1) if 3 * k <= n]
    if board[0] == "ring":
        return [("swap", k, bent) for k in range(1, n) for bent in (0, 1) if 5 * k <= n]
    high, wide = board[1:]
    lots = [(h, w) for h in range(1, high + 1) for w in range(1, wide + 1)]
    over = [
        ("over", h, w, bent) for h, w in lots for bent in (0, 1)
        if 3 * w <= wide and 2 * h - 1 <= high
    ]
    under = [
        ("under", h, w, bent) for h, w in lots for bent in (0, 1)
        if 3 * h <= high and 2 * w - 1 <= wide
    ]
    return over + under


def pairs_by_hand(board, rule, cell):
    """The pairs of the rule's deed at the cell, walked on the board, or None."""
    if not 0 <= cell < size(board):
        return None
    if board[0] == "floor":
        return floor_pairs(board, rule, cell)
    n, k = board[1], rule[1]
    one = list(range(cell, cell + k))
    other = list(range(cell + k, cell + 2 * k))
    if board[0] == "row":
        if other[-1] >= n:
            return None
        return tuple(zip(one, other))
    return tuple((a if a < n else a - n, b if b < n else b - n) for a, b in zip(one, other))


def floor_pairs(board, rule, cell):
    high, wide = board[1:]
    word, h, w, _ = rule
    down, right = (h, 0) if word == "under" else (0, w)
    pairs = []
    for row in range(cell // wide, cell // wide + h):
        for column in range(cell % wide, cell % wide + w):
            if row + down >= high or column + right >= wide:
                return None
            pairs.append((row * wide + column, (row + down) * wide + column + right))
    return tuple(pairs)


@functools.cache
def deeds_by_hand(board, book):
    return tuple(
        (number, cell)
        for number, rule in enumerate(book)
        for cell in range(size(board))
        if pairs_by_hand(board, rule, cell) is not None
    )


def done_by_hand(board, book, standing, deeds):
    for number, cell in deeds:
        things = dict(enumerate(standing))
        bent = book[number][-1]
        for a, b in pairs_by_hand(board, book[number], cell):
            things[a] = (standing[b][0], standing[b][1] ^ bent)
            things[b] = (standing[a][0], standing[a][1] ^ bent)
        standing = tuple(things[x] for x in range(len(standing)))
    return standing


def ties_by_hand(board, book):
    """All ties of the book as triples (cell, other cell, bent)."""
    return sorted({
        (a, b, book[number][-1])
        for number, cell in deeds_by_hand(board, book)
        for a, b in pairs_by_hand(board, book[number], cell)
    })


def joined(points, pairs):
    """The parts that the points fall into when those of each pair are joined, each sorted."""
    parts = {point: {point} for point in points}
    for a, b in pairs:
        if parts[a] is not parts[b]:
            both = parts[a] | parts[b]
            for point in both:
                parts[point] = both
    return sorted({tuple(sorted(part)) for part in parts.values()})


@functools.cache
def classes_by_hand(board, book):
    return tuple(joined(range(size(board)), [tie[:2] for tie in ties_by_hand(board, book)]))


def marks_by_hand(board, book):
    """The marks, or None: each cell is taken twice, with either mark, and ties join what fits."""
    points = [(cell, mark) for cell in range(size(board)) for mark in (0, 1)]
    pairs = [
        ((a, mark), (b, mark ^ bent))
        for a, b, bent in ties_by_hand(board, book) for mark in (0, 1)
    ]
    marks = {}
    for part in joined(points, pairs):
        if len({cell for cell, _ in part}) < len(part):
            return None
        # Of a class's two parts the one with its first cell's mark 0 comes first.
        for cell, mark in part:
            marks.setdefault(cell, mark)
    return tuple(marks[cell] for cell in range(size(board)))


def some_books(board, many, seed=0):
    """Books of one to four unlike rules for the board, always the same ones."""
    rules = all_rules(board)
    chance = random.Random(f"{board} {seed}")
    return [
        tuple(chance.sample(rules, min(len(rules), 1 + k % 4)))
        for k in range(many) if rules
    ]


def some_deeds(board, book, many, seed=0):
    chance = random.Random(f"{board} {book} {seed}")
    deeds = deeds_by_hand(board, book)
    return tuple(chance.choice(deeds) for _ in range(many))


def some_standing(board, seed=0, names=string.ascii_lowercase):
    chance = random.Random(f"{board} {seed}")
    return tuple(
        (chance.choice(names) * chance.randint(1, 4), chance.randint(0, 1))
        for _ in range(size(board))
    )


def unlike_standing(board):
    """A standing in which no name comes twice, up and down by turns."""
    letters = string.ascii_lowercase
    return tuple((letters[x // 6] + letters[x % 6], x % 2) for x in range(size(board)))


def is_plain(told):
    """Whether what is told is made of tuples, texts and whole numbers that are no truths."""
    if type(told) is tuple:
        return all(is_plain(part) for part in told)
    return type(told) in (int, str)
