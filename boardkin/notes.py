"""Boards written as texts: rows of figures, each with a line end behind it."""

from boardkin.boards import looked
from boardkin.errors import BadNote, NoBoard

FIGURES = "0123456789"


def shown(board):
    return "".join([row_shown(row) for row in board])


def row_shown(row):
    return "".join([str(colour) for colour in row]) + "\n"


def read(text):
    if not text.endswith("\n"):
        raise BadNote(f"the last row has no line end behind it in {text!r}")
    # Behind the last line end stands no further row.
    rows = text.split("\n")[:-1]
    board = tuple([row_read(row) for row in rows])
    try:
        looked(board)
    except NoBoard as error:
        raise BadNote(f"no board is written in {text!r}") from error
    return board


def row_read(row):
    for sign in row:
        if sign not in FIGURES:
            raise BadNote(f"{sign!r} is no figure")
    return tuple([int(sign) for sign in row])
