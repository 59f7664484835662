"""Rows as doings: one behind the other, back again; the pairs of a row that stand wrong, and its runs."""

from backorder.checks import need_row
from backorder.errors import Unlike


def behind(one, other):
    need_row(one)
    need_row(other)
    if len(one) != len(other):
        raise Unlike("the two rows have other counts of things")
    return [one[place] for place in other]


def back_of(row):
    told = [0] * len(row)
    for place, thing in enumerate(row):
        told[thing] = place
    return told


def back(row):
    need_row(row)
    return back_of(row)


def wrong_by_last_bit(numbers):
    # Pairs of an odd number and the even one just below it, the odd one ahead.
    odd_ahead = [0] * (len(numbers) // 2 + 1)
    pairs = 0
    for number in numbers:
        if number & 1:
            odd_ahead[number >> 1] += 1
        else:
            pairs += odd_ahead[number >> 1]
    return pairs


def wrong(row):
    need_row(row)
    # Two things differ in a highest bit, and the greater one has it: so each pair is counted once,
    # at that bit, and a row of very many things takes as few walks as its greatest thing has bits.
    pairs = 0
    numbers = row
    greatest = len(row) - 1
    while greatest > 0:
        pairs += wrong_by_last_bit(numbers)
        numbers = [number >> 1 for number in numbers]
        greatest = greatest >> 1
    return pairs


def run_lengths(row):
    # For each thing, how long the longest run is that ends with it.
    lengths = []
    length = 0
    earlier = -1
    for place in back_of(row):
        length = length + 1 if place > earlier else 1
        lengths.append(length)
        earlier = place
    return lengths
