"""Moves done one behind the other, and answers judged, by the words of the document alone and however slowly."""

from collections import deque
from functools import cache
from itertools import combinations, permutations


def done_exchanges(row, pairs):
    done = list(row)
    for one, other in pairs:
        done[one], done[other] = done[other], done[one]
    return done


def done_fronting(row, things):
    done = list(row)
    for thing in things:
        done.remove(thing)
        done.insert(0, thing)
    return done


def done_ending(row, moves):
    done = list(row)
    for thing, end in moves:
        done.remove(thing)
        done.insert(0 if end == 0 else len(done), thing)
    return done


def done_putting(row, moves):
    done = list(row)
    for thing, place in moves:
        done.remove(thing)
        done.insert(place, thing)
    return done


def is_sorted(row):
    return all(thing == place for place, thing in enumerate(row))


def is_number(value):
    return type(value) is int


def is_a_row(value):
    return type(value) is list and all(map(is_number, value)) and sorted(value) == list(range(len(value)))


def is_thing(value, row):
    return is_number(value) and value in row


def are_pairs(value):
    return all(type(pair) is tuple and len(pair) == 2 and all(map(is_number, pair)) for pair in value)


def longest_run(row):
    longest = 0
    for first in row:
        last = first
        while last + 1 < len(row) and row.index(last + 1) > row.index(last):
            last += 1
        longest = max(longest, last - first + 1)
    return longest


def longest_rise(row):
    lengths = []
    for place, thing in enumerate(row):
        lengths.append(1 + max((lengths[ahead] for ahead in range(place) if row[ahead] < thing), default=0))
    return max(lengths, default=0)


def count_of_rings(row):
    met = set()
    number = 0
    for thing in row:
        if thing not in met:
            number += 1
        while thing not in met:
            met.add(thing)
            thing = row[thing]
    return number


def fewest_to_front(row):
    return next(number for number in range(len(row) + 1) if is_sorted(done_fronting(row, range(number - 1, -1, -1))))


def things_within(told):
    return sorted(thing for part in told for thing in part)


def are_lists_of_each(told, row):
    if not all(type(part) is list and part and all(map(is_number, part)) for part in told):
        return False
    return things_within(told) == list(range(len(row)))


def judged_exchanged(row, pairs, rings):
    if not is_a_row(row) or not are_pairs(pairs) or not are_lists_of_each(rings, row):
        return False
    if not all(0 <= one < other < len(row) for one, other in pairs):
        return False
    if not all(row[ring[at - 1]] == ring[at] for ring in rings for at in range(len(ring))):
        return False
    return is_sorted(done_exchanges(row, pairs)) and len(pairs) == len(row) - len(rings)


def judged_fronted(row, things):
    if not is_a_row(row) or not all(is_thing(thing, row) for thing in things) or len(set(things)) < len(things):
        return False
    if not is_sorted(done_fronting(row, things)):
        return False
    if not things:
        return True
    greatest = max(things)
    more = greatest + 1
    return more in row and more not in things and row.index(more) < row.index(greatest)


def judged_ended(row, moves):
    if not is_a_row(row) or not are_pairs(moves):
        return False
    if not all(is_thing(thing, row) and end in (0, 1) for thing, end in moves):
        return False
    return is_sorted(done_ending(row, moves)) and len(moves) == len(row) - longest_run(row)


def judged_put(row, moves, falls):
    if not is_a_row(row) or not are_pairs(moves) or not are_lists_of_each(falls, row):
        return False
    if not all(is_thing(thing, row) and 0 <= place < len(row) for thing, place in moves):
        return False
    for fall in falls:
        if fall != sorted(fall, reverse=True) or fall != sorted(fall, key=row.index):
            return False
    return is_sorted(done_putting(row, moves)) and len(falls) == len(row) - len(moves)


def next_by_exchange(row):
    return [done_exchanges(row, [pair]) for pair in combinations(range(len(row)), 2)]


def next_by_fronting(row):
    return [done_fronting(row, [thing]) for thing in row]


def next_by_ending(row):
    return [done_ending(row, [(thing, end)]) for thing in row for end in (0, 1)]


def next_by_putting(row):
    return [done_putting(row, [(thing, place)]) for thing in row for place in range(len(row))]


@cache
def fewest(many, next_rows):
    """For each row of so many things the fewest moves to order, by trying all that are shorter."""
    earlier = {row: [] for row in permutations(range(many))}
    for row in earlier:
        for later in next_rows(list(row)):
            earlier[tuple(later)].append(row)
    number = {tuple(range(many)): 0}
    found = deque(number)
    while found:
        row = found.popleft()
        for farther in earlier[row]:
            if farther not in number:
                number[farther] = number[row] + 1
                found.append(farther)
    return number
