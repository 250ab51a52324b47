"""Sign rows of deeds, their sums, and lots of classes."""

from stridelots.books.rules import all_deeds, pairs_at, pairs_of
from stridelots.webs.classes import classes_of


def sign_row(board, book, deed):
    """For each class 1 where an odd number of the deed's pairs lie in it, else 0; or NoDeed."""
    return _signs(classes_of(board, book), pairs_of(board, book, deed))


def span_of(board, book):
    """The reduced list of all sums of the book's sign rows."""
    return reduced(list(deeds_by_signs(board, book)), len(classes_of(board, book)))


def lots_of(board, book):
    """The reduced list of the rows that have an even number of 1 in common with each sign row."""
    return lots_within(board, book, list(range(len(classes_of(board, book)))))


def lots_within(board, book, numbers):
    """The reduced list of the lots that have no 1 but in the classes of these numbers."""
    many = len(classes_of(board, book))
    # What has an even number of 1 in common with a row of a single 1 has none at its place.
    bars = [one_at(at, many) for at in range(many) if at not in numbers]
    span = reduced(list(deeds_by_signs(board, book)) + bars, many)
    firsts = [row.index(1) for row in span]
    free = [at for at in range(many) if at not in firsts]
    return reduced([_lot_with(at, span, many) for at in free], many)


def deeds_by_signs(board, book):
    """For each unlike sign row of the book's deeds the first deed that has it."""
    classes = classes_of(board, book)
    deeds = {}
    for number, cell in all_deeds(board, book):
        row = _signs(classes, pairs_at(board, book[number], cell))
        deeds.setdefault(row, (number, cell))
    return deeds


def deeds_summing(board, book, signs):
    """Deeds whose sign rows have the sum signs, a row of which it is known that some have; None is as good as both."""
    fixed = [number for number, sign in enumerate(signs) if sign is not None]
    deeds = deeds_by_signs(board, book)
    # Each row keeps behind its signs of which sign rows it is the sum.
    rows = [tuple([row[number] for number in fixed]) + one_at(at, len(deeds)) for at, row in enumerate(deeds)]
    summed = [0] * len(deeds)
    for row in reduced(rows, len(fixed)):
        if signs[fixed[row.index(1)]] == 1:
            summed = [(one + other) % 2 for one, other in zip(summed, row[len(fixed):])]
    return [deed for deed, taken in zip(deeds.values(), summed) if taken == 1]


def one_at(at, many):
    """The row of so many places that has a single 1, at this place."""
    return tuple([1 if place == at else 0 for place in range(many)])


def reduced(rows, many):
    """The reduced list whose sums are just those of the rows, which have so many places.

    Where rows have more places, those behind go along with the ones ahead.
    """
    told = []
    left = rows
    for at in range(many):
        leads = [row for row in left if row[at] == 1]
        if leads:
            # The lead itself becomes a row of noughts: it leads no more.
            left = [_without(row, at, leads[0]) for row in left]
            told = [_without(row, at, leads[0]) for row in told] + [leads[0]]
    return tuple(told)


def _signs(classes, pairs):
    """For each class the rest at 2 of how many of the pairs lie in it."""
    # Both cells of a pair lie in one class.
    return tuple([len([one for one, _ in pairs if one in cells]) % 2 for cells in classes])


def _without(row, at, lead):
    """The row, with the lead added where the row has 1 at the place."""
    if row[at] == 0:
        return row
    return tuple([(one + other) % 2 for one, other in zip(row, lead)])


def _lot_with(at, span, many):
    """The lot that has 1 at this place where no row of the span has its first, and at no other such."""
    lot = [0] * many
    lot[at] = 1
    for row in span:
        # The row's first 1 is its only one among the places of the firsts.
        lot[row.index(1)] = row[at]
    return tuple(lot)
