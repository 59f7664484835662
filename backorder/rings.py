"""The rings of a row, the row of told rings, and what the rings make quick: many times at once, the turns."""

from backorder.checks import are_parts, is_whole, need_row
from backorder.errors import BadNumber, BadRings

MOST_THINGS = 1000000


def ring_from(row, first, met):
    ring = []
    thing = first
    while not met[thing]:
        met[thing] = True
        ring.append(thing)
        thing = row[thing]
    return ring


def rings_of(row):
    # Walked upwards, the first thing not met yet is the least of its ring.
    met = [False] * len(row)
    found = []
    for thing in range(len(row)):
        if not met[thing]:
            found.append(ring_from(row, thing, met))
    return found


def rings(row):
    need_row(row)
    return rings_of(row)


def set_ring(row, ring, steps):
    for thing, later in zip(ring, ring[steps:] + ring[:steps]):
        row[thing] = later


def row_of(many, told):
    row = list(range(many))
    for ring in told:
        set_ring(row, ring, 1)
    return row


def of_rings(many, told):
    if not is_whole(many) or not 0 <= many <= MOST_THINGS:
        raise BadNumber("a count of things is a whole number from 0 to 1000000")
    if not are_parts(many, told):
        raise BadRings("rings are a list of lists of one or more things of the row, none twice")
    return row_of(many, told)


def greatest_shared(one, other):
    while other > 0:
        rest = one % other
        one = other
        other = rest
    return one


def turns_of(found):
    # A ring is in order after its length of times and after no fewer: so all are after the least number
    # that each length goes into.
    number = 1
    for length in sorted(set([len(ring) for ring in found])):
        number = number // greatest_shared(number, length) * length
    return number


def turns(row):
    need_row(row)
    return turns_of(rings_of(row))


def times(row, number):
    need_row(row)
    if not is_whole(number):
        raise BadNumber("a number of times is a whole number")
    found = rings_of(row)
    # The row is in order after its turns, so only the rest counts, which is never below 0. Taken once,
    # it spares each of very many rings the division of a very great number.
    rest = number % turns_of(found)
    told = list(row)
    for ring in found:
        set_ring(told, ring, rest % len(ring))
    return told
