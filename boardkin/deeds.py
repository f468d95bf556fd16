"""Turnings, kinships and deeds: what they do to boards, and what comes of two deeds.

A turning of 4 or more mirrors first; beyond that, each turns by as many quarters
as it leaves when divided by 4.
"""

from boardkin.errors import NoKinship, NotSquare

LETTERS = "hqms"
QUARTERS = 4
FIRST_MIRRORING = 4


def turnings(kinship):
    check_kinship(kinship)
    # The turnings of each kinship lie evenly apart, so a step and an end tell them all.
    step = QUARTERS
    if "h" in kinship:
        step = 2
    if "q" in kinship:
        step = 1
    end = FIRST_MIRRORING
    if "m" in kinship:
        end = FIRST_MIRRORING + QUARTERS
    return list(range(0, end, step))


def check_kinship(kinship):
    in_order = "".join([letter for letter in LETTERS if letter in kinship])
    if kinship != in_order:
        raise NoKinship(f"a kinship has letters of {LETTERS}, each once and in this order, not {kinship!r}")


def deeds(kinship, width, height):
    kinship_turnings = turnings(kinship)
    if "q" in kinship and width != height:
        raise NotSquare(f"{kinship} is for boards with as many rows as places, not {width} by {height}")
    slides = [(0, 0)]
    if "s" in kinship:
        slides = all_slides(width, height)
    told = []
    for turning in kinship_turnings:
        told.extend([(turning, slide[0], slide[1]) for slide in slides])
    return told


def all_slides(width, height):
    slides = []
    for a in range(width):
        slides.extend([(a, b) for b in range(height)])
    return slides


def done(board, deed):
    return slid(turned(board, deed[0]), deed[1], deed[2])


def turned(board, turning):
    if turning >= FIRST_MIRRORING:
        board = mirrored(board)
    for count in range(turning % QUARTERS):
        board = quarter_turned(board)
    return board


def mirrored(board):
    return tuple([tuple(reversed(row)) for row in board])


def quarter_turned(board):
    # Clockwise, the lowest row comes to lie leftmost: so each column is read from below.
    return tuple([column_from_below(board, x) for x in range(len(board[0]))])


def column_from_below(board, x):
    return tuple([row[x] for row in reversed(board)])


def slid(board, a, b):
    height = len(board)
    rows = [row_slid(row, a) for row in board]
    return tuple([rows[(y - b) % height] for y in range(height)])


def row_slid(row, a):
    width = len(row)
    return tuple([row[(x - a) % width] for x in range(width)])


def behind(one, other, width, height):
    # The other deed's turning turns the first one's slide along with the board.
    slide = slide_turned((one[1], one[2]), other[0])
    turning = turning_behind(one[0], other[0])
    return (turning, (slide[0] + other[1]) % width, (slide[1] + other[2]) % height)


def slide_turned(slide, turning):
    if turning >= FIRST_MIRRORING:
        slide = (-slide[0], slide[1])
    for count in range(turning % QUARTERS):
        slide = (-slide[1], slide[0])
    return slide


def turning_behind(one, other):
    # Worked out on the turnings alone: on boards with few places the cells don't tell them apart.
    quarters = one + other
    if other >= FIRST_MIRRORING:
        # Seen in the mirror, the quarters turned before go the other way round.
        quarters = other - one
    mirrors = (one >= FIRST_MIRRORING) != (other >= FIRST_MIRRORING)
    return quarters % QUARTERS + (FIRST_MIRRORING if mirrors else 0)


def undoing(deed, width, height):
    # What was done last is undone first: the slide, then the turning.
    back = (0, -deed[1], -deed[2])
    return behind(back, (turning_undoing(deed[0]), 0, 0), width, height)


def turning_undoing(turning):
    if turning >= FIRST_MIRRORING:
        # A mirroring, turned or not, is a mirroring along some line, and undoes itself.
        return turning
    return (QUARTERS - turning) % QUARTERS
