"""The fewest moves of each kind that bring a row in order."""

from backorder.answers import Ended, Exchanged, Fronted, Put
from backorder.checks import need_row
from backorder.marks import Marks
from backorder.rings import rings_of
from backorder.rows import back_of, run_lengths


def exchanged(row):
    need_row(row)
    found = rings_of(row)
    pairs = []
    for ring in found:
        # At the ring's first place stands in turn each later thing of it, and each exchange brings that one home.
        pairs.extend([(ring[0], place) for place in ring[1:]])
    return Exchanged(pairs, found)


def fronted(row):
    need_row(row)
    # The things that aren't moved come last in the end: so they are a run that ends with the greatest thing.
    left = run_lengths(row)[-1] if len(row) > 0 else 0
    return Fronted(list(range(len(row) - left - 1, -1, -1)))


def ended(row):
    need_row(row)
    lengths = run_lengths(row)
    longest = max(lengths, default=0)
    behind_run = lengths.index(longest) + 1 if longest > 0 else 0
    to_front = [(thing, 0) for thing in range(behind_run - longest - 1, -1, -1)]
    to_back = [(thing, 1) for thing in range(behind_run, len(row))]
    return Ended(to_front + to_back)


def first_greater(rising, thing):
    low = 0
    high = len(rising)
    while low < high:
        middle = (low + high) // 2
        if rising[middle] < thing:
            low = middle + 1
        else:
            high = middle
    return low


def falls_of(row):
    # Each thing goes to the first fall whose last thing is greater: so the last things rise from fall to fall, and
    # when a thing comes to a fall, the last thing of the fall ahead is lesser and stands ahead of it.
    falls = []
    lasts = []
    for thing in row:
        number = first_greater(lasts, thing)
        if number == len(falls):
            falls.append([thing])
            lasts.append(thing)
        else:
            falls[number].append(thing)
            lasts[number] = thing
    return falls


def risers(row, falls):
    # For each thing, whether it is left where it is: one of each fall, from the last fall on the nearest one ahead,
    # which was the last of its fall when the one behind it came, and so is lesser.
    fall_of = [0] * len(row)
    for number, fall in enumerate(falls):
        for thing in fall:
            fall_of[thing] = number
    left = [False] * len(row)
    wanted = len(falls) - 1
    for thing in reversed(row):
        if fall_of[thing] == wanted:
            left[thing] = True
            wanted -= 1
    return left


def moves_beside(row, left):
    # The things are moved from the least on, each to right behind the one less by one: so ahead of it come all lesser
    # things and those of the things still to be moved that stand ahead of the last one left where it was.
    places = back_of(row)
    waiting = Marks([not left[thing] for thing in row])
    last_left = 0
    moves = []
    for thing in range(len(row)):
        if left[thing]:
            last_left = places[thing]
        else:
            waiting.unmark(places[thing])
            moves.append((thing, thing + waiting.ahead(last_left)))
    return moves


def put(row):
    need_row(row)
    falls = falls_of(row)
    return Put(moves_beside(row, risers(row, falls)), falls)
