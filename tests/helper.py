"""What several test files need: boards, sizes and kinships, and answers worked out without the program."""

import contextlib
import itertools
import signal

from boardkin.deeds import deeds, done

LENGTHS = range(1, 9)
SIZES = [(width, height) for width in LENGTHS for height in LENGTHS]

KINSHIPS = {
    "": [0],
    "s": [0],
    "h": [0, 2],
    "hs": [0, 2],
    "q": [0, 1, 2, 3],
    "qs": [0, 1, 2, 3],
    "hq": [0, 1, 2, 3],
    "hqs": [0, 1, 2, 3],
    "m": [0, 4],
    "ms": [0, 4],
    "hm": [0, 2, 4, 6],
    "hms": [0, 2, 4, 6],
    "qm": [0, 1, 2, 3, 4, 5, 6, 7],
    "qms": [0, 1, 2, 3, 4, 5, 6, 7],
    "hqm": [0, 1, 2, 3, 4, 5, 6, 7],
    "hqms": [0, 1, 2, 3, 4, 5, 6, 7],
}

NO_KINSHIPS = [
    "hh", "qq", "mm", "ss", "hqq", "hqmss", "hhqms", "hqmsh", "hmm",
    "qh", "mh", "sh", "mq", "sq", "sm", "smqh", "hmq", "hsm", "qmh", "hqsm",
    "x", "a", "r", "hx", "xh", "hxq", "hqmsx", "0", "1", "-",
    "H", "Q", "M", "S", "HQMS", "Hq", "hqmS", "hQ",
    " ", "  ", " h", "h ", "h q", "h m s", "\t", "\n", "h\n", "\nh", "hqms\n", "h,q",
]

# Where each turning leads the cell (x, y) of a board of so many places and rows.
LED = {
    0: lambda x, y, width, height: (x, y),
    1: lambda x, y, width, height: (height - 1 - y, x),
    2: lambda x, y, width, height: (width - 1 - x, height - 1 - y),
    3: lambda x, y, width, height: (y, width - 1 - x),
    4: lambda x, y, width, height: (width - 1 - x, y),
    5: lambda x, y, width, height: (height - 1 - y, width - 1 - x),
    6: lambda x, y, width, height: (x, height - 1 - y),
    7: lambda x, y, width, height: (y, x),
}


def board(text):
    """The board of rows such as "123 456"."""
    return tuple(tuple(int(figure) for figure in row) for row in text.split())


def plain_board(width, height, colour=0):
    return ((colour,) * width,) * height


def with_cell(a_board, x, y, colour):
    rows = [list(row) for row in a_board]
    rows[y][x] = colour
    return tuple(tuple(row) for row in rows)


def numbered_board(width, height):
    """All cells unlike; of more than ten cells it is no board, but deeds can be done to it."""
    return tuple(tuple(y * width + x for x in range(width)) for y in range(height))


def lopsided_board(width, height):
    """A board that no deed but (0, 0, 0) leaves, where the size lets there be one."""
    return with_cell(with_cell(with_cell(plain_board(width, height), 0, 0, 1), 1, 0, 2), 3, 1, 3)


def unlike_boards(width, height):
    """Two boards that together tell all cells apart: one of places, one of rows."""
    places = tuple(tuple(x for x in range(width)) for y in range(height))
    rows = tuple((y,) * width for y in range(height))
    return places, rows


def every_board(colours, width, height):
    """All boards of the size with so many colours, in the order of tuples."""
    rows = itertools.product(range(colours), repeat=width)
    return list(itertools.product(rows, repeat=height))


def every_deed(width, height):
    """All deeds for boards of the size, made without the program."""
    step = 1 if width == height else 2
    return [(turning, a, b) for turning in range(0, 8, step) for a in range(width) for b in range(height)]


def fitting_kinships(width, height):
    return [kinship for kinship in KINSHIPS if "q" not in kinship or width == height]


def asked_deeds(kinship, width, height):
    across = range(width) if "s" in kinship else [0]
    down = range(height) if "s" in kinship else [0]
    return [(turning, a, b) for turning in KINSHIPS[kinship] for a in across for b in down]


def led(a_board, deed):
    """The board that comes of the deed, cell by cell."""
    width, height = len(a_board[0]), len(a_board)
    rows = [[None] * width for y in range(height)]
    for y in range(height):
        for x in range(width):
            to_x, to_y = LED[deed[0]](x, y, width, height)
            rows[(to_y + deed[2]) % height][(to_x + deed[1]) % width] = a_board[y][x]
    return tuple(tuple(row) for row in rows)


def all_led(boards, deed):
    return tuple(led(each, deed) for each in boards)


def asked_family(a_board, kinship):
    all_deeds = asked_deeds(kinship, len(a_board[0]), len(a_board))
    return sorted({led(a_board, deed) for deed in all_deeds})


def asked_families(boards, kinship):
    """The least boards of the families of all these boards."""
    return sorted({asked_family(each, kinship)[0] for each in boards})


def asked_rounds(deed, width, height):
    """The lengths of the rounds: the deed is done until each cell has come back to its place."""
    start = sum(numbered_board(width, height), ())
    now = numbered_board(width, height)
    back = {}
    step = 0
    while len(back) < len(start):
        now = led(now, deed)
        step += 1
        for cell, number in enumerate(sum(now, ())):
            if number == start[cell]:
                back.setdefault(cell, step)
    steps = list(back.values())
    # Each round is met once from each of its cells.
    return [length for length in sorted(set(steps)) for each in range(steps.count(length) // length)]


def all_done(boards, deed):
    return tuple(done(each, deed) for each in boards)


def program_deeds(kinship, width, height):
    """The kinship's deeds for the size, or none where the kinship is not for such boards."""
    if "q" in kinship and width != height:
        return []
    return deeds(kinship, width, height)


@contextlib.contextmanager
def good_time(seconds=20):
    """What stands within fails if it takes longer."""
    def late(number, frame):
        raise AssertionError(f"not ended within {seconds} seconds")

    before = signal.signal(signal.SIGALRM, late)
    signal.alarm(seconds)
    try:
        yield
    finally:
        signal.alarm(0)
        signal.signal(signal.SIGALRM, before)
