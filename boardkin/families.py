"""Families of boards that are kin, the deeds that leave a board, and the least boards of all families."""

from boardkin.counting import multiplied
from boardkin.deeds import deeds, done
from boardkin.errors import TooMany, UnlikeSizes

MOST_BOARDS = 1100


def kin(board, kinship):
    return sorted(set(all_led_to(board, deeds_for(board, kinship))))


def least(board, kinship):
    return min(all_led_to(board, deeds_for(board, kinship)))


def leaving(board, kinship):
    return [deed for deed in deeds_for(board, kinship) if done(board, deed) == board]


def alike(one, other, kinship):
    if size_of(one) != size_of(other):
        raise UnlikeSizes(f"{one} and {other} are not of one size")
    for deed in deeds_for(one, kinship):
        if done(one, deed) == other:
            return deed
    return None


def deeds_for(board, kinship):
    size = size_of(board)
    return deeds(kinship, size[0], size[1])


def size_of(board):
    # Not looked at more closely: boards somewhat beyond the bounds are not refused here.
    return (len(board[0]), len(board))


def all_led_to(board, board_deeds):
    return [done(board, deed) for deed in board_deeds]


def families(colours, kinship, width, height):
    # The deeds come ahead of the boards' number, for their refusals do.
    size_deeds = deeds(kinship, width, height)
    check_how_many(colours, width, height)
    told = []
    met = {}
    for board in all_boards(colours, width, height):
        # The boards come in their order, so the first one of a family is its least.
        if board not in met:
            told.append(board)
            for relative in all_led_to(board, size_deeds):
                met[relative] = True
    return told


def check_how_many(colours, width, height):
    boards = multiplied(colours, width * height)
    if boards > MOST_BOARDS:
        raise TooMany(f"there are {boards} boards, more than {MOST_BOARDS}")


def all_boards(colours, width, height):
    return all_tuples(all_tuples(list(range(colours)), width), height)


def all_tuples(parts, length):
    # From sorted parts come sorted tuples: the first part changes last.
    told = [()]
    for count in range(length):
        longer = []
        for start in told:
            longer.extend([start + (part,) for part in parts])
        told = longer
    return told
