"""Things that are face down."""


def down_parted(cells, one, other):
    """Whether on the cells an even number of things is face down in one of the standings, an odd one in the other."""
    return (_down_many(cells, one) + _down_many(cells, other)) % 2 == 1


def _down_many(cells, standing):
    """How many of the things on the cells are face down."""
    return len([cell for cell in cells if standing[cell][1] == 1])
