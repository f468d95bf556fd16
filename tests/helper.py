"""What several test files need: boards written as texts, sizes, and cells that can be told apart."""

from boardkin.deeds import deeds, done

LENGTHS = range(1, 9)
SIZES = [(width, height) for width in LENGTHS for height in LENGTHS]

KINSHIPS = {
    "": [0],
    "s": [0],
    "h": [0, 2],
    "hs": [0, 2],
    "q": [0, 1, 2, 3],
    "qs": [0, 1, 2, 3],
    "hq": [0, 1, 2, 3],
    "hqs": [0, 1, 2, 3],
    "m": [0, 4],
    "ms": [0, 4],
    "hm": [0, 2, 4, 6],
    "hms": [0, 2, 4, 6],
    "qm": [0, 1, 2, 3, 4, 5, 6, 7],
    "qms": [0, 1, 2, 3, 4, 5, 6, 7],
    "hqm": [0, 1, 2, 3, 4, 5, 6, 7],
    "hqms": [0, 1, 2, 3, 4, 5, 6, 7],
}


def board(text):
    """The board of rows such as "123 456"."""
    return tuple(tuple(int(figure) for figure in row) for row in text.split())


def plain_board(width, height, colour=0):
    return ((colour,) * width,) * height


def with_cell(a_board, x, y, colour):
    rows = [list(row) for row in a_board]
    rows[y][x] = colour
    return tuple(tuple(row) for row in rows)


def every_deed(width, height):
    """All deeds for boards of the size, made without the program."""
    step = 1 if width == height else 2
    return [(turning, a, b) for turning in range(0, 8, step) for a in range(width) for b in range(height)]


def unlike_boards(width, height):
    """Two boards that together tell all cells apart: one of places, one of rows."""
    places = tuple(tuple(x for x in range(width)) for y in range(height))
    rows = tuple((y,) * width for y in range(height))
    return places, rows


def all_done(boards, deed):
    return tuple(done(each, deed) for each in boards)


def program_deeds(kinship, width, height):
    """The kinship's deeds for the size, or none where the kinship is not for such boards."""
    if "q" in kinship and width != height:
        return []
    return deeds(kinship, width, height)
