"""The rounds of deeds, the boards that deeds leave, and the number of families."""

from boardkin.deeds import deeds, done
from boardkin.errors import BadNumbers


def rounds(deed, width, height):
    origins = cell_origins(deed, width, height)
    met = [False] * len(origins)
    lengths = []
    for cell in range(len(origins)):
        if not met[cell]:
            lengths.append(round_length(cell, origins, met))
    return sorted(lengths)


def cell_origins(deed, width, height):
    # Done to a board of numbered cells, the deed shows from where each cell gets its colour.
    numbered = tuple([tuple(range(y * width, (y + 1) * width)) for y in range(height)])
    origins = []
    for row in done(numbered, deed):
        origins.extend(row)
    return origins


def round_length(start, origins, met):
    # Gone through backwards, a round is as long as forwards.
    length = 0
    cell = start
    while not met[cell]:
        met[cell] = True
        cell = origins[cell]
        length = length + 1
    return length


def left(colours, deed, width, height):
    return multiplied(colours, len(rounds(deed, width, height)))


def multiplied(colours, times):
    product = 1
    for count in range(times):
        product = product * colours
    return product


def how_many(colours, kinship, width, height):
    kinship_deeds = deeds(kinship, width, height)
    boards_left = sum([left(colours, deed, width, height) for deed in kinship_deeds])
    return boards_left // len(kinship_deeds)


def how_many_with(numbers, kinship, width, height):
    kinship_deeds = deeds(kinship, width, height)
    check_numbers(numbers, width * height)
    shared = deeds_sharing_rounds(kinship_deeds, width, height)
    boards_left = sum([shared[lengths] * left_with(numbers, lengths) for lengths in shared])
    return boards_left // len(kinship_deeds)


def check_numbers(numbers, cells):
    for number in numbers:
        if number < 0:
            raise BadNumbers(f"no colour has {number} cells")
    together = sum(numbers)
    if together != cells:
        raise BadNumbers(f"the numbers come to {together}, but there are {cells} cells")


def deeds_sharing_rounds(kinship_deeds, width, height):
    # Many deeds have rounds of the same lengths; what they leave is then counted once for all of them.
    shared = {}
    for deed in kinship_deeds:
        lengths = tuple(rounds(deed, width, height))
        shared[lengths] = shared.get(lengths, 0) + 1
    return shared


def left_with(numbers, lengths):
    # Rounds of one length are alike, so it is enough to know how many of each length have no colour yet:
    # the ways to get there are kept, not the ways to colour each round, which are far too many.
    unlike_lengths = sorted(set(lengths))
    ways = {tuple([lengths.count(length) for length in unlike_lengths]): 1}
    for number in numbers:
        ways = ways_with_colour(ways, unlike_lengths, number)
    # The numbers come to all cells, so no way is kept that leaves a round without colour.
    return sum(ways.values())


def ways_with_colour(ways, unlike_lengths, number):
    further = {}
    for free in ways:
        for pick in picks(free, unlike_lengths, number):
            still_free = pick[0]
            further[still_free] = further.get(still_free, 0) + ways[free] * pick[2]
    return further


def picks(free, unlike_lengths, number):
    # Each pick: how many rounds stay free of each length so far, the cells still asked for, the ways to pick so.
    told = [((), number, 1)]
    for place in range(len(unlike_lengths)):
        longer = []
        for pick in told:
            longer.extend(picks_further(pick, free[place], unlike_lengths[place]))
        told = longer
    return [pick for pick in told if pick[1] == 0]


def picks_further(pick, free, length):
    most = min(free, pick[1] // length)
    return [
        (pick[0] + (free - count,), pick[1] - count * length, pick[2] * choices(free, count))
        for count in range(most + 1)
    ]


def choices(of_many, count):
    product = 1
    for taken in range(count):
        # Divided at each step, and always without a rest: so far it is the choices of taken + 1.
        product = product * (of_many - taken) // (taken + 1)
    return product
