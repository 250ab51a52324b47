"""Boards, books and standings to test with, and their deeds worked out once more."""

import functools
import random
import string

ROWS = [("row", n) for n in range(3, 37)]
RINGS = [("ring", n) for n in range(5, 37)]
FLOORS = [
    ("floor", high, wide)
    for high in range(1, 37) for wide in range(1, 36 // high + 1)
]
BOARDS = ROWS + RINGS + FLOORS
GREATEST = [board for board in BOARDS if board[1] * (board[2:] or (1,))[0] == 36]


def size(board):
    return board[1] * board[2] if board[0] == "floor" else board[1]


def all_rules(board):
    """Every rule that fits the board, by the bounds that DOC.md tells."""
    n = board[1]
    if board[0] == "row":
        return [("swap", k, bent) for k in range(1, n) for bent in (0, 1) if 3 * k <= n]
    if board[0] == "ring":
        return [("swap", k, bent) for k in range(1, n) for bent in (0, 1) if 5 * k <= n]
    high, wide = board[1:]
    lots = [(h, w) for h in range(1, high + 1) for w in range(1, wide + 1)]
    over = [
        ("over", h, w, bent) for h, w in lots for bent in (0, 1)
        if 3 * w <= wide and 2 * h - 1 <= high
    ]
    under = [
        ("under", h, w, bent) for h, w in lots for bent in (0, 1)
        if 3 * h <= high and 2 * w - 1 <= wide
    ]
    return over + under


@functools.cache
def pairs_by_hand(board, rule, cell):
    """The pairs of the rule's deed at the cell, walked on the board, or None."""
    if not 0 <= cell < size(board):
        return None
    if board[0] == "floor":
        return floor_pairs(board, rule, cell)
    n, k = board[1], rule[1]
    one = list(range(cell, cell + k))
    other = list(range(cell + k, cell + 2 * k))
    if board[0] == "row":
        if other[-1] >= n:
            return None
        return tuple(zip(one, other))
    return tuple((a if a < n else a - n, b if b < n else b - n) for a, b in zip(one, other))


def floor_pairs(board, rule, cell):
    high, wide = board[1:]
    word, h, w, _ = rule
    down, right = (h, 0) if word == "under" else (0, w)
    pairs = []
    for row in range(cell // wide, cell // wide + h):
        for column in range(cell % wide, cell % wide + w):
            if row + down >= high or column + right >= wide:
                return None
            pairs.append((row * wide + column, (row + down) * wide + column + right))
    return tuple(pairs)


@functools.cache
def deeds_by_hand(board, book):
    return tuple(
        (number, cell)
        for number, rule in enumerate(book)
        for cell in range(size(board))
        if pairs_by_hand(board, rule, cell) is not None
    )


def done_by_hand(board, book, standing, deeds):
    things = list(standing)
    for number, cell in deeds:
        bent = book[number][-1]
        for a, b in pairs_by_hand(board, book[number], cell):
            (one, face), (other, turned) = things[a], things[b]
            things[a], things[b] = (other, turned ^ bent), (one, face ^ bent)
    return tuple(things)


@functools.cache
def ties_by_hand(board, book):
    """All ties of the book as triples (cell, other cell, bent)."""
    return sorted({
        (a, b, book[number][-1])
        for number, cell in deeds_by_hand(board, book)
        for a, b in pairs_by_hand(board, book[number], cell)
    })


def joined(points, pairs):
    """The parts that the points fall into when those of each pair are joined, each sorted."""
    parts = {point: {point} for point in points}
    for a, b in pairs:
        if parts[a] is not parts[b]:
            both = parts[a] | parts[b]
            for point in both:
                parts[point] = both
    return sorted({tuple(sorted(part)) for part in parts.values()})


@functools.cache
def classes_by_hand(board, book):
    return tuple(joined(range(size(board)), [tie[:2] for tie in ties_by_hand(board, book)]))


@functools.cache
def marks_by_hand(board, book):
    """The marks, or None: each cell is taken twice, with either mark, and ties join what fits."""
    points = [(cell, mark) for cell in range(size(board)) for mark in (0, 1)]
    pairs = [
        ((a, mark), (b, mark ^ bent))
        for a, b, bent in ties_by_hand(board, book) for mark in (0, 1)
    ]
    marks = {}
    for part in joined(points, pairs):
        if len({cell for cell, _ in part}) < len(part):
            return None
        # Of a class's two parts the one with its first cell's mark 0 comes first.
        for cell, mark in part:
            marks.setdefault(cell, mark)
    return tuple(marks[cell] for cell in range(size(board)))


def some_books(board, many, seed=0):
    """Books of one to four unlike rules for the board, always the same ones."""
    rules = all_rules(board)
    chance = random.Random(f"{board} {seed}")
    return [
        tuple(chance.sample(rules, min(len(rules), 1 + k % 4)))
        for k in range(many) if rules
    ]


def some_deeds(board, book, many, seed=0):
    chance = random.Random(f"{board} {book} {seed}")
    deeds = deeds_by_hand(board, book)
    return tuple(chance.choice(deeds) for _ in range(many))


def some_standing(board, seed=0, names=string.ascii_lowercase):
    chance = random.Random(f"{board} {seed}")
    return tuple(
        (chance.choice(names) * chance.randint(1, 4), chance.randint(0, 1))
        for _ in range(size(board))
    )


def unlike_standing(board):
    """A standing in which no name comes twice, up and down by turns."""
    letters = string.ascii_lowercase
    return tuple((letters[x // 6] + letters[x % 6], x % 2) for x in range(size(board)))


def is_plain(told):
    """Whether what is told is made of tuples, texts and whole numbers that are no truths."""
    if type(told) is tuple:
        return all(is_plain(part) for part in told)
    return type(told) in (int, str)


def names_standing(board, names, seed=0):
    """A standing with just these names one after the other, again from the first, faces by chance."""
    chance = random.Random(f"{board} {names} {seed}")
    return tuple((names[x % len(names)], chance.randint(0, 1)) for x in range(size(board)))


def some_standings(board):
    """Standings with names all unlike, some alike and all alike."""
    return [unlike_standing(board)] + [names_standing(board, names) for names in (("a", "bc", "d"), ("aa",))]


def kinds_by_hand(board, book, standing):
    """The kinds of a standing, as tuples, class by class."""
    marks = marks_by_hand(board, book)
    kinds = [
        name if marks is None else (name, face ^ marks[cell])
        for cell, (name, face) in enumerate(standing)
    ]
    return [tuple(kinds[cell] for cell in cells) for cells in classes_by_hand(board, book)]


def exchanges(kinds, goals):
    """How many exchanges lead unlike kinds to their places in goals."""
    kinds, many = list(kinds), 0
    for at, goal in enumerate(goals):
        if kinds[at] != goal:
            other = kinds.index(goal)
            kinds[at], kinds[other] = kinds[other], kinds[at]
            many += 1
    return many


def signs_by_hand(board, book, one, other):
    """The signs of the turning class by class, where the kinds are the same in both."""
    return tuple(
        exchanges(kinds, goals) % 2 if len(set(kinds)) == len(kinds) else None
        for kinds, goals in zip(kinds_by_hand(board, book, one), kinds_by_hand(board, book, other))
    )


def moved(board, book, standing, goes):
    """The standing behind each thing has gone to its goal (a dict by cells), in an even book with the kind it had."""
    marks = marks_by_hand(board, book) or (0,) * len(standing)
    told = list(standing)
    for cell, goal in goes.items():
        name, face = standing[cell]
        told[goal] = (name, face ^ marks[cell] ^ marks[goal])
    return tuple(told)


def exchanged(board, book, standing, a, b):
    return moved(board, book, standing, {a: b, b: a})


def turned_over(standing, *cells):
    return tuple((name, face ^ (x in cells)) for x, (name, face) in enumerate(standing))


def mixed(board, book, standing, seed=0):
    """All things of each class mixed anew; where the book is not even, faces anew, too, none odd that was not."""
    chance = random.Random(f"{board} {book} {seed}")
    classes = classes_by_hand(board, book)
    goes = {}
    for cells in classes:
        goes.update(zip(cells, chance.sample(cells, len(cells))))
    standing = moved(board, book, standing, goes)
    if marks_by_hand(board, book) is None:
        for cells in classes:
            turned = [cell for cell in cells if chance.randint(0, 1)]
            standing = turned_over(standing, *turned[len(turned) % 2:])
    return standing


def all_led(board, book, standing, most=10 ** 6):
    """All standings that deeds lead to, each with the first row of the fewest deeds to it."""
    rows = {standing: ()}
    level = [standing]
    while level and len(rows) <= most:
        found = []
        for one in level:
            for deed in deeds_by_hand(board, book):
                other = done_by_hand(board, book, one, (deed,))
                if other not in rows:
                    rows[other] = rows[one] + (deed,)
                    found.append(other)
        level = found
    return rows


def in_common(board, book, deed, numbers):
    """How many of the deed's pairs lie in the classes of these numbers."""
    inside = {cell for number in numbers for cell in classes_by_hand(board, book)[number]}
    return len([pair for pair in pairs_by_hand(board, book[deed[0]], deed[1]) if inside >= set(pair)])


def paper_by_hand(board, book, one, other, paper):
    """Whether a tuple in the form of a paper holds what DOC.md says of it."""
    classes = classes_by_hand(board, book)
    kinds = list(zip(kinds_by_hand(board, book, one), kinds_by_hand(board, book, other)))
    word, told = paper[0], paper[1]
    if word == "lack":
        return told in range(len(classes)) and kinds[told][0].count(paper[2]) != kinds[told][1].count(paper[2])
    if word == "faces":
        if told not in range(len(classes)) or marks_by_hand(board, book) is not None:
            return False
        return sum(one[cell][1] + other[cell][1] for cell in classes[told]) % 2 == 1
    if not told or sorted(set(told)) != list(told) or not set(told) <= set(range(len(classes))):
        return False
    for number in told:
        before, behind = kinds[number]
        if len(set(before)) < len(before) or sorted(before) != sorted(behind):
            return False
    if any(in_common(board, book, deed, told) % 2 for deed in deeds_by_hand(board, book)):
        return False
    return sum(exchanges(*kinds[number]) for number in told) % 2 == 1


@functools.cache
def sums_by_hand(board, book):
    """All sums of the sign rows of the book's deeds."""
    sums = {(0,) * len(classes_by_hand(board, book))}
    for deed in deeds_by_hand(board, book):
        row = tuple(in_common(board, book, deed, (x,)) % 2 for x in range(len(classes_by_hand(board, book))))
        if row not in sums:
            sums |= {tuple(a ^ b for a, b in zip(row, one)) for one in sums}
    return sums


def leads_by_hand(board, book, one, other):
    """Whether deeds lead there: by kinds, faces, and a sum of sign rows that tells all signs that are fixed."""
    kinds, goals = kinds_by_hand(board, book, one), kinds_by_hand(board, book, other)
    if [sorted(row) for row in kinds] != [sorted(row) for row in goals]:
        return False
    if marks_by_hand(board, book) is None:
        for cells in classes_by_hand(board, book):
            if sum(one[cell][1] + other[cell][1] for cell in cells) % 2:
                return False
    signs = signs_by_hand(board, book, one, other)
    return any(
        all(sign is None or sign == place for sign, place in zip(signs, row))
        for row in sums_by_hand(board, book)
    )
