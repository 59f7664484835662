"""The answers: moves that bring a row in order, and what shows that fewer won't do."""

from backorder.checks import are_pairs, are_whole_parts, first_met, is_row
from backorder.doing import after_ending, after_exchanges, after_fronting, is_in_order, put_brings_order
from backorder.rings import row_of
from backorder.rows import back_of, run_lengths


def copied(told):
    return [list(part) if isinstance(part, list) else part for part in told]


def are_rings_of(row, told):
    return are_whole_parts(len(row), told) and row_of(len(row), told) == row


def are_exchanges(many, pairs):
    return are_pairs(pairs) and all([0 <= pair[0] < pair[1] < many for pair in pairs])


def are_different_things(many, things):
    if not isinstance(things, list):
        return False
    met = [False] * many
    return all([first_met(thing, met) for thing in things])


def are_needed(row, things):
    if len(things) == 0:
        return True
    # The thing one more than the greatest of them can't be one of them.
    greatest = max(things)
    return greatest + 1 < len(row) and row.index(greatest) > row.index(greatest + 1)


def are_moves_to_ends(many, moves):
    return are_pairs(moves) and all([0 <= move[0] < many and 0 <= move[1] <= 1 for move in moves])


def falls_in_turn(fall, places):
    for thing, later in zip(fall, fall[1:]):
        if thing < later or places[thing] > places[later]:
            return False
    return True


def are_falls_of(row, told):
    if not are_whole_parts(len(row), told):
        return False
    places = back_of(row)
    return all([falls_in_turn(fall, places) for fall in told])


class Answer:
    pass


class Exchanged(Answer):
    def __init__(self, pairs, rings):
        self.pairs = copied(pairs)
        self.rings = copied(rings)

    def shows(self, row):
        if not is_row(row) or not are_rings_of(row, self.rings) or not are_exchanges(len(row), self.pairs):
            return False
        if len(self.pairs) != len(row) - len(self.rings):
            return False
        return is_in_order(after_exchanges(row, self.pairs))


class Fronted(Answer):
    def __init__(self, things):
        self.things = copied(things)

    def shows(self, row):
        if not is_row(row) or not are_different_things(len(row), self.things):
            return False
        return is_in_order(after_fronting(row, self.things)) and are_needed(row, self.things)


class Ended(Answer):
    def __init__(self, moves):
        self.moves = copied(moves)

    def shows(self, row):
        if not is_row(row) or not are_moves_to_ends(len(row), self.moves):
            return False
        if len(self.moves) != len(row) - max(run_lengths(row), default=0):
            return False
        return is_in_order(after_ending(row, self.moves))


class Put(Answer):
    def __init__(self, moves, falls):
        self.moves = copied(moves)
        self.falls = copied(falls)

    def shows(self, row):
        if not is_row(row) or not are_falls_of(row, self.falls) or not are_pairs(self.moves):
            return False
        if len(self.moves) != len(row) - len(self.falls):
            return False
        # A thing moved twice would leave more things unmoved than there are falls: two of one fall, which never rise.
        things = [move[0] for move in self.moves]
        return are_different_things(len(row), things) and put_brings_order(row, self.moves)
