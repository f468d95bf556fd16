"""Boards: tuples of 1 to 8 rows, each a tuple of as many colours, 1 to 8, from 0 to 9."""

from boardkin.errors import NoBoard

LONGEST = 8
LAST_COLOUR = 9


def looked(board):
    height = len(board)
    check_length(height, "rows")
    # The first row sets the width; the others are held against it.
    width = len(board[0])
    check_length(width, "places")
    for row in board:
        check_row(row, width)
    return (width, height)


def check_length(length, what):
    if not 1 <= length <= LONGEST:
        raise NoBoard(f"a board has 1 to {LONGEST} {what}, not {length}")


def check_row(row, width):
    if len(row) != width:
        raise NoBoard(f"the first row has {width} places, the row {row} has not")
    for colour in row:
        if not 0 <= colour <= LAST_COLOUR:
            raise NoBoard(f"a colour is from 0 to {LAST_COLOUR}, not {colour}")
