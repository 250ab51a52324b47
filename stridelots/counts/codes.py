"""Standings as single whole numbers, in which deeds are done by a few operations."""

from stridelots.books.rules import all_deeds, bent_of, pairs_at

# Bits for each cell: the lowest is the face, those above are the name's number.
BITS = 7


def code_of(standing, names):
    """The standing as one whole number; names has all names in it, each once, at most 36."""
    code = 0
    for cell, (name, face) in enumerate(standing):
        code = code | ((2 * names.index(name) + face) << (BITS * cell))
    return code


def moves_of(board, book):
    """What each deed of the book does with codes, in the order of all deeds: triples (deed, shifts, turned).

    Shifts has pairs (how many bits apart two cells are, the bits of the lower one for all such pairs of the
    deed); turned has the bits of all faces that are turned over.
    """
    moves = []
    for deed in all_deeds(board, book):
        number, cell = deed
        pairs = pairs_at(board, book[number], cell)
        turned = sum([1 << (BITS * end) for pair in pairs for end in pair]) * bent_of(book[number])
        moves.append((deed, _shifts_of(pairs), turned))
    return moves


def _shifts_of(pairs):
    """The pairs (bits apart, bits of the lower cells) for the pairs of a deed."""
    shifts = {}
    for one, other in pairs:
        # Round a ring's end the pair's first cell is not the lower one, and they are otherwise far apart.
        low, high = sorted([one, other])
        apart = BITS * (high - low)
        shifts[apart] = shifts.get(apart, 0) | (((1 << BITS) - 1) << (BITS * low))
    return list(shifts.items())


def codes_beside(code, moves):
    """The codes of the standings behind each of the moves, done on that of the code."""
    codes = []
    for _, shifts, turned in moves:
        behind = code
        for apart, lower in shifts:
            # Where the two cells differ in a bit both change it: so they are exchanged.
            unlike = ((behind >> apart) ^ behind) & lower
            behind = behind ^ unlike ^ (unlike << apart)
        codes.append(behind ^ turned)
    return codes
