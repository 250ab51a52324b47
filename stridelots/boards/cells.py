"""Boards and their cells."""

MOST_CELLS = 36


def cells_many(board):
    """How many cells the board has."""
    high, wide = high_and_wide(board)
    return high * wide


def high_and_wide(board):
    """How many rows of how many cells each the board has."""
    if board[0] == "floor":
        return board[1], board[2]
    # Rows and rings are written as floors of one row are.
    return 1, board[1]
