import unittest
from copy import deepcopy
from itertools import permutations, product
from random import Random

from backorder.answers import Answer, Ended, Exchanged, Fronted, Put
from backorder.least import ended, exchanged, fronted, put
from backorder.rings import rings
from tests import by_hand
from tests.samples import MANY, all_rows, backwards, in_order, in_pairs, one_ring, shuffled, shuffled_rows

JUDGED = ((exchanged, Exchanged, by_hand.judged_exchanged), (fronted, Fronted, by_hand.judged_fronted),
          (ended, Ended, by_hand.judged_ended), (put, Put, by_hand.judged_put))


def fields(answer):
    return list(vars(answer).values())


def other_numbers(number, many):
    return [other for other in [number - 1, number + 1] + list(range(-2, many + 2)) + [10 ** 30, -10 ** 30, True, False]
            if other is not number]


def changed_items(item, many):
    """A number, a pair or a list of numbers, with one thing about it changed."""
    if isinstance(item, tuple):
        yield item[::-1]
        yield list(item)
        yield item[:1]
        yield item + (0,)
        for at in range(len(item)):
            for number in other_numbers(item[at], many):
                yield item[:at] + (number,) + item[at + 1:]
    elif isinstance(item, list):
        yield tuple(item)
        yield from changed_lists(item, many)
        for at in range(1, len(item)):
            yield item[at:] + item[:at]
    else:
        yield from other_numbers(item, many)


def changed_lists(field, many):
    """A list with an item left out, doubled, exchanged with another or changed, or with one more."""
    for at in range(len(field)):
        yield field[:at] + field[at + 1:]
        yield field[:at + 1] + field[at:]
        for later in range(at + 1, len(field)):
            yield field[:at] + [field[later]] + field[at + 1:later] + [field[at]] + field[later + 1:]
        for item in changed_items(field[at], many):
            yield field[:at] + [item] + field[at + 1:]
    for added in (0, many - 1, many, -1, (0, 0), (0, 1), (1, 0), (many - 1, 1), [], [0], [many - 1], [many], [0, 1]):
        yield field + [added]
        yield [added] + field
    yield field[::-1]
    yield field + field


def parted_and_put_together(field):
    for at, part in enumerate(field):
        if isinstance(part, list):
            for cut in range(len(part) + 1):
                yield field[:at] + [part[:cut], part[cut:]] + field[at + 1:]
            for later in range(at + 1, len(field)):
                rest = field[:at] + field[at + 1:later] + field[later + 1:]
                for joined in (part + field[later], field[later] + part, sorted(part + field[later], reverse=True)):
                    yield rest + [joined]


def changed_fields(told, many):
    for at, field in enumerate(told):
        for other in list(changed_lists(field, many)) + list(parted_and_put_together(field)):
            yield told[:at] + [other] + told[at + 1:]


def other_rows(row):
    many = len(row)
    yield row[::-1]
    for place in range(many + 1):
        yield row[:place] + [many] + row[place:]
        yield row[:place] + [0] + row[place:]
        yield row[:place] + [-1] + row[place:]
    for place in range(many):
        yield row[:place] + row[place + 1:]
        for number in (-1, 0, many, True, False, 10 ** 30):
            yield row[:place] + [number] + row[place + 1:]
        for later in range(place):
            other = list(row)
            other[place], other[later] = row[later], row[place]
            yield other


class Classes(unittest.TestCase):
    def test_straight_under_answer(self):
        for made in (Exchanged, Fronted, Ended, Put):
            self.assertEqual(made.__bases__, (Answer,))
        self.assertEqual(Answer.__bases__, (object,))

    def test_fields(self):
        self.assertEqual(vars(Exchanged([(0, 1)], [[0, 1]])), {"pairs": [(0, 1)], "rings": [[0, 1]]})
        self.assertEqual(vars(Exchanged(rings=[[0]], pairs=[])), {"pairs": [], "rings": [[0]]})
        self.assertEqual(vars(Fronted([1, 0])), {"things": [1, 0]})
        self.assertEqual(vars(Fronted(things=[])), {"things": []})
        self.assertEqual(vars(Ended([(1, 0)])), {"moves": [(1, 0)]})
        self.assertEqual(vars(Ended(moves=[])), {"moves": []})
        self.assertEqual(vars(Put([(1, 0)], [[1, 0]])), {"moves": [(1, 0)], "falls": [[1, 0]]})
        self.assertEqual(vars(Put(falls=[[0]], moves=[])), {"moves": [], "falls": [[0]]})

    def test_any_lists_are_taken(self):
        for told in ([], [0], [-1, 7, 7], [10 ** 30]):
            self.assertEqual(Fronted(told).things, told)
        for told in ([], [(0, 0)], [(5, -3), (5, -3)], [(10 ** 30, 2)]):
            self.assertEqual(Ended(told).moves, told)
            for parts in ([], [[]], [[0, 0], []], [[-1], [10 ** 30]]):
                self.assertEqual(fields(Exchanged(told, parts)), [told, parts])
                self.assertEqual(fields(Put(told, parts)), [told, parts])

    def test_lists_are_copied(self):
        for made, told in ((Exchanged, [[(0, 1)], [[0, 1], [2]]]), (Fronted, [[1, 0]]), (Ended, [[(0, 1)]]),
                           (Put, [[(0, 1)], [[1, 0], [2]]]), (Exchanged, [[], [[]]]), (Put, [[], [[]]])):
            held = deepcopy(told)
            answer = made(*told)
            for field, own in zip(told, fields(answer)):
                self.assertIs(type(own), list)
                self.assertIsNot(own, field)
            for field in told:
                for part in field:
                    if isinstance(part, list):
                        part.append(9)
                field.append(9)
            self.assertEqual(fields(answer), held)
            again = made(*held)
            kept = deepcopy(held)
            for own in fields(again):
                for part in own:
                    if isinstance(part, list):
                        part.append(9)
                own.append(9)
            self.assertEqual(held, kept)

    def test_a_list_handed_in_twice(self):
        shared = []
        answer = Put(shared, shared)
        answer.moves.append((0, 0))
        self.assertEqual((answer.falls, shared), ([], []))


class Shows(unittest.TestCase):
    def judge(self, made, judged, row, told):
        right = judged(row, *told)
        self.assertIs(made(*told).shows(row), right, (made, row, told))
        return right

    def test_own_answers_changed_in_one_way(self):
        for least, made, judged in JUDGED:
            seen = {True: 0, False: 0}
            for row in all_rows(4) + [shuffled(5, seed) for seed in range(3)]:
                told = fields(least(row))
                self.assertTrue(self.judge(made, judged, row, told))
                for other in changed_fields(told, len(row)):
                    seen[self.judge(made, judged, row, other)] += 1
            self.assertGreater(seen[False], 1000)
            self.assertGreater(seen[True], 0)

    def test_of_other_rows(self):
        for least, made, judged in JUDGED:
            for row in all_rows(4) + [shuffled(6, seed) for seed in range(5)]:
                told = fields(least(row))
                for other in other_rows(row):
                    self.judge(made, judged, other, told)

    def test_each_answer_of_each_other_small_row(self):
        rows = all_rows(4)
        for least, made, judged in JUDGED:
            for row in rows:
                told = fields(least(row))
                for other in rows:
                    self.judge(made, judged, other, told)

    def test_greater_answers_changed_by_chance(self):
        chance = Random(21)
        for least, made, judged in JUDGED:
            for row in shuffled_rows():
                told = fields(least(row))
                for step in range(15):
                    other = deepcopy(told)
                    field = chance.choice([field for field in other if field] or [[0]])
                    at, to = chance.randrange(len(field)), chance.randrange(len(field))
                    if step % 3 == 0:
                        field[at], field[to] = field[to], field[at]
                    elif step % 3 == 1:
                        field.insert(to, field.pop(at))
                    elif isinstance(field[at], tuple):
                        field[at] = (field[at][0], field[at][1] + chance.choice((-1, 1)))
                    self.judge(made, judged, row, other)

    def test_what_is_shown_is_not_changed(self):
        for least, made, judged in JUDGED:
            for row in all_rows(4) + shuffled_rows():
                answer = least(row)
                held, told = list(row), deepcopy(fields(answer))
                self.assertTrue(answer.shows(row))
                self.assertTrue(answer.shows(row))
                answer.shows(row[::-1])
                self.assertEqual((row, fields(answer)), (held, told))

    def test_a_field_as_the_row(self):
        answer = Fronted([0])
        self.assertIs(answer.shows(answer.things), False)
        answer.things = []
        self.assertIs(answer.shows(answer.things), True)

    def test_fields_as_they_stand_then(self):
        answer = Exchanged([], [])
        self.assertIs(answer.shows([1, 0]), False)
        answer.pairs.append((0, 1))
        self.assertIs(answer.shows([1, 0]), False)
        answer.rings = [[1, 0]]
        self.assertIs(answer.shows([1, 0]), True)
        answer.rings[0].pop()
        self.assertIs(answer.shows([1, 0]), False)
        answer = Fronted([0, 1])
        self.assertIs(answer.shows([2, 1, 0]), False)
        answer.things.reverse()
        self.assertIs(answer.shows([2, 1, 0]), True)
        answer = Ended([(2, 0)])
        self.assertIs(answer.shows([2, 0, 1]), False)
        answer.moves[0] = (2, 1)
        self.assertIs(answer.shows([2, 0, 1]), True)
        answer = Put([(2, 2)], [[2, 1], [0]])
        self.assertIs(answer.shows([2, 0, 1]), True)
        answer.falls[0].reverse()
        self.assertIs(answer.shows([2, 0, 1]), False)
        answer.falls = [[1], [2, 0]]
        self.assertIs(answer.shows([2, 0, 1]), True)
        answer.moves.clear()
        self.assertIs(answer.shows([2, 0, 1]), False)

    def test_fields_that_are_no_lists(self):
        for other in (None, 0, (), "", {}):
            for made, told in ((Exchanged, [[], [[0]]]), (Fronted, [[]]), (Ended, [[]]), (Put, [[], [[0]]])):
                for name in vars(made(*told)):
                    answer = made(*told)
                    self.assertIs(answer.shows([0]), True)
                    vars(answer)[name] = other
                    self.assertIs(answer.shows([0]), False)

    def test_lists_that_are_no_rows(self):
        for row in ([1], [0, 0], [-1], [0, 2], [1, 2], [10 ** 30], [False], [False, True], [True, 0], [1, True]):
            for answer in (Exchanged([], []), Exchanged([], [[0]]), Exchanged([], [[0], [1]]), Exchanged([(0, 1)], [[0, 1]]),
                           Fronted([]), Fronted([0]), Ended([]), Ended([(0, 0)]), Ended([(1, 1)]), Put([], []),
                           Put([], [[0]]), Put([], [[0], [1]]), Put([(0, 0)], [[1, 0]])):
                self.assertIs(answer.shows(row), False)

    def test_no_things_and_one_thing(self):
        for answer in (Exchanged([], []), Fronted([]), Ended([]), Put([], [])):
            self.assertIs(answer.shows([]), True)
        for answer in (Exchanged([], [[]]), Exchanged([(0, 1)], []), Exchanged([(0, 0)], []), Exchanged([], [[0]]),
                       Fronted([0]), Ended([(0, 0)]), Put([], [[]]), Put([(0, 0)], []), Put([], [[0]])):
            self.assertIs(answer.shows([]), False)
        for answer in (Exchanged([], [[0]]), Fronted([]), Ended([]), Put([], [[0]])):
            self.assertIs(answer.shows([0]), True)
        for answer in (Exchanged([], []), Exchanged([], [[0], []]), Exchanged([(0, 0)], []), Exchanged([(0, 0)], [[0]]),
                       Fronted([0]), Fronted([1]), Ended([(0, 0)]), Ended([(0, 1)]), Put([], []), Put([], [[0], []]),
                       Put([(0, 0)], []), Put([(0, 0)], [[0]])):
            self.assertIs(answer.shows([0]), False)


class ShowsExchanged(unittest.TestCase):
    row = [3, 1, 4, 0, 2]
    pairs = [(0, 3), (2, 4)]
    rings = [[0, 3], [1], [2, 4]]

    def assert_shows(self, right, pairs, told):
        self.assertIs(Exchanged(pairs, told).shows(self.row), right, (pairs, told))

    def test_rings_begun_with_any_thing_in_any_turn(self):
        for order in permutations(self.rings):
            self.assert_shows(True, self.pairs, list(order))
        self.assert_shows(True, self.pairs, [[4, 2], [1], [3, 0]])
        for row in all_rows(5):
            pairs = exchanged(row).pairs
            for begun in range(1, len(row)):
                told = [ring[begun % len(ring):] + ring[:begun % len(ring)] for ring in rings(row)]
                self.assertIs(Exchanged(pairs, told[::-1]).shows(row), True)

    def test_a_ring_turned_round(self):
        self.assertIs(Exchanged([(0, 1), (0, 2)], [[0, 1, 2]]).shows([1, 2, 0]), True)
        self.assertIs(Exchanged([(0, 1), (0, 2)], [[0, 2, 1]]).shows([1, 2, 0]), False)

    def test_exchanges_of_another_way(self):
        self.assert_shows(True, [(2, 4), (0, 3)], self.rings)
        for pairs in ([(0, 1), (0, 2)], [(0, 2), (1, 2)], [(1, 2), (0, 1)]):
            self.assertIs(Exchanged(pairs, [[0, 1, 2]]).shows([1, 2, 0]), True, pairs)
        for pairs in ([(0, 2), (0, 1)], [(1, 2), (0, 2)], [(0, 1), (1, 2)]):
            self.assertIs(Exchanged(pairs, [[0, 1, 2]]).shows([1, 2, 0]), False, pairs)

    def test_wrong_exchanges(self):
        for pairs in ([], [(0, 3)], [(2, 4)], [(0, 3), (0, 3)], [(0, 3), (2, 4), (2, 4)], [(3, 0), (2, 4)],
                      [(0, 3), (4, 2)], [(0, 4), (2, 3)], [(0, 3), (2, 2)], [(-5, 3), (2, 4)], [(0, 3), (2, -1)],
                      [(0, 3), (2, 5)], [(0, 3), (-1, 4)], [(0, 3), (2, 4), (1, 1)], [(0, 3, 0), (2, 4)],
                      [[0, 3], [2, 4]], [(False, 3), (2, 4)], [0, 3, 2, 4]):
            self.assert_shows(False, pairs, self.rings)

    def test_too_many_exchanges_that_bring_it_in_order(self):
        more = self.pairs + [(0, 1), (0, 1)]
        self.assertTrue(by_hand.is_sorted(by_hand.done_exchanges(self.row, more)))
        self.assert_shows(False, more, self.rings)
        self.assert_shows(False, more, [[0, 3, 1, 2, 4]])
        self.assert_shows(False, more, [[0, 1, 2, 3, 4]])

    def test_wrong_rings(self):
        for told in ([], [[0, 3], [2, 4]], [[0, 3], [1], [2], [4]], [[0, 3, 1], [2, 4]], [[0, 3, 2, 4], [1]],
                     [[0, 3], [1], [2, 4], [1]], [[0, 3], [1, 1], [2, 4]], [[0, 3], [1], [2, 4], []], [[0, 3], [], [2, 4]],
                     [[0, 3, 0, 3], [1], [2, 4]], [[0, 3], [5], [2, 4]], [[0, 3], [-4], [2, 4]], [[0, 3], [1], [2, -1]],
                     [[0, 3], [1], [4]], [[0, 2], [1], [3, 4]], [(0, 3), (1,), (2, 4)], [0, 3, 1], [[0, 3], [True], [2, 4]]):
            self.assert_shows(False, self.pairs, told)

    def test_every_answer_of_small_numbers(self):
        places = list(product(range(-1, 4), repeat=2))
        told_rings = [[], [[0]], [[0, 1]], [[1, 0]], [[0], [1]], [[1], [0]], [[0, 1, 2]], [[2, 0, 1]], [[0, 2, 1]],
                      [[0, 1], [2]], [[2], [1, 0]], [[0], [1], [2]], [[]], [[0], []]]
        told_pairs = [[]] + [[pair] for pair in places] + [list(two) for two in product(places, repeat=2)]
        for row in all_rows(3):
            for told in told_rings:
                for pairs in told_pairs:
                    right = by_hand.judged_exchanged(row, pairs, told)
                    self.assertIs(Exchanged(pairs, told).shows(row), right, (row, pairs, told))

    def test_very_many_things(self):
        row = one_ring(MANY)
        self.assertIs(Exchanged([(place, place + 1) for place in range(MANY - 2, -1, -1)], [row]).shows(row), True)
        self.assertIs(Exchanged([(place, place + 1) for place in range(MANY - 1)], [row]).shows(row), False)
        self.assertIs(Exchanged([(0, place) for place in range(1, MANY)], [row[::-1]]).shows(row), False)


class ShowsFronted(unittest.TestCase):
    row = [2, 0, 3, 1, 4]

    def test_told_ones(self):
        self.assertIs(Fronted([1, 0]).shows(self.row), True)
        for things in ([], [0], [1], [0, 1], [1, 0, 0], [1, 1, 0], [0, 1, 0], [2, 1, 0], [3, 2, 1, 0], [4, 3, 2, 1, 0],
                       [1, 0, -1], [-1, 1, 0], [5, 1, 0], [1, 0, 5], [1, -5], [1, False], [True, 0], [(1, 0)], [[1, 0]]):
            self.assertIs(Fronted(things).shows(self.row), False, things)

    def test_too_many_that_bring_it_in_order(self):
        for row in all_rows(5):
            few = len(fronted(row).things)
            for number in range(len(row) + 1):
                self.assertIs(Fronted(backwards(number)).shows(row), number == few)

    def test_a_thing_more(self):
        self.assertIs(Fronted([1, 0]).shows(self.row + [5]), True)
        self.assertIs(Fronted([1, 0]).shows([5] + self.row), False)
        self.assertIs(Fronted([1, 0]).shows(self.row[::-1]), False)

    def test_every_answer_of_small_numbers(self):
        for row in all_rows(4):
            for number in range(5):
                for things in product(range(-1, len(row) + 1), repeat=number):
                    right = by_hand.judged_fronted(row, list(things))
                    self.assertIs(Fronted(list(things)).shows(row), right, (row, things))

    def test_very_many_things(self):
        row = backwards(MANY)
        self.assertIs(Fronted(backwards(MANY)).shows(row), False)
        self.assertIs(Fronted(backwards(MANY - 1)).shows(row), True)
        self.assertIs(Fronted(backwards(MANY - 2)).shows(row), False)
        self.assertIs(Fronted(in_order(MANY - 1)).shows(row), False)
        self.assertIs(Fronted([MANY - 1] * MANY).shows(row), False)


class ShowsEnded(unittest.TestCase):
    row = [5, 1, 4, 2, 0, 3]

    def test_told_ones(self):
        for moves in ([(0, 0), (4, 1), (5, 1)], [(4, 1), (0, 0), (5, 1)], [(4, 1), (5, 1), (0, 0)]):
            self.assertIs(Ended(moves).shows(self.row), True, moves)
        for moves in ([], [(0, 0), (4, 1)], [(0, 0), (5, 1), (4, 1)], [(0, 1), (4, 1), (5, 1)], [(0, 0), (4, 0), (5, 1)],
                      [(0, 0), (4, 1), (5, 2)], [(0, -1), (4, 1), (5, 1)], [(0, 0), (0, 0), (4, 1), (5, 1)],
                      [(0, 0), (4, 1), (6, 1)], [(-6, 0), (4, 1), (5, 1)], [(0, 0), (4, 1), (-1, 1)],
                      [(0, 0), (1, 4), (1, 5)], [(0, False), (4, 1), (5, 1)], [(0, 0), (4, True), (5, 1)],
                      [(False, 0), (4, 1), (5, 1)], [[0, 0], [4, 1], [5, 1]], [(0, 0, 0), (4, 1), (5, 1)], [0, 4, 5],
                      [(0, 0), (4, 1), (5, 1), (1, 0), (0, 0)], [(1, 0), (0, 0), (4, 1), (5, 1)]):
            self.assertIs(Ended(moves).shows(self.row), False, moves)

    def test_another_run_as_long(self):
        for moves in ([(1, 1), (2, 1)], [(0, 0), (2, 1)], [(2, 1), (0, 0)], [(1, 0), (0, 0)]):
            self.assertIs(Ended(moves).shows([2, 1, 0]), True, moves)

    def test_too_many_that_bring_it_in_order(self):
        for moves in ([(0, 0)], [(1, 1)], [(0, 0), (1, 1)], [(1, 0), (0, 0)], [(0, 1), (1, 1)]):
            self.assertTrue(by_hand.is_sorted(by_hand.done_ending([0, 1], moves)))
            self.assertIs(Ended(moves).shows([0, 1]), False, moves)
        self.assertIs(Ended([(2, 0), (1, 0), (0, 0)]).shows([2, 1, 0]), False)

    def test_every_answer_of_small_numbers(self):
        for row in all_rows(3):
            moves_of_one = list(product(range(-1, len(row) + 1), range(-1, 3)))
            for number in range(3):
                for moves in product(moves_of_one, repeat=number):
                    right = by_hand.judged_ended(row, list(moves))
                    self.assertIs(Ended(list(moves)).shows(row), right, (row, moves))

    def test_every_three_moves_of_four_things(self):
        one_move = list(product(range(4), (0, 1)))
        for row in permutations(range(4)):
            for moves in product(one_move, repeat=3):
                right = by_hand.judged_ended(list(row), list(moves))
                self.assertIs(Ended(list(moves)).shows(list(row)), right, (row, moves))

    def test_very_many_things(self):
        row = backwards(MANY)
        self.assertIs(Ended([(thing, 1) for thing in range(1, MANY)]).shows(row), True)
        self.assertIs(Ended([(thing, 0) for thing in range(MANY - 2, -1, -1)]).shows(row), True)
        self.assertIs(Ended([(thing, 1) for thing in range(MANY)]).shows(row), False)
        self.assertIs(Ended([(MANY - 1, 1)] * (MANY - 1)).shows(row), False)
        half = MANY // 2
        both = [(half + step if end else half - step, end) for step in range(1, half) for end in (0, 1)] + [(0, 0)]
        self.assertIs(Ended(both).shows(row), True)
        self.assertIs(Ended(both).shows(row[1:] + row[:1]), False)


class ShowsPut(unittest.TestCase):
    row = [3, 0, 4, 1, 2]
    moves = [(3, 4), (4, 4)]
    falls = [[3, 0], [4, 1], [2]]

    def assert_shows(self, right, moves, falls):
        self.assertIs(Put(moves, falls).shows(self.row), right, (moves, falls))

    def test_other_right_moves(self):
        for moves in (self.moves, [(4, 4), (3, 3)]):
            self.assertEqual(by_hand.done_putting(self.row, moves), in_order(5), moves)
            self.assert_shows(True, moves, self.falls)

    def test_other_right_falls(self):
        for falls in ([[2], [4, 1], [3, 0]], [[0], [3, 1], [4, 2]], [[3, 0], [1], [4, 2]], [[3, 2], [4, 1], [0]],
                      [[0], [4, 1], [3, 2]]):
            self.assert_shows(True, self.moves, falls)

    def test_wrong_moves(self):
        for moves in ([], [(3, 4)], [(4, 4)], [(3, 4), (3, 4)], [(4, 4), (3, 4)], [(3, 2), (4, 4)], [(4, 3), (4, 4)],
                      [(3, 4), (4, 5)], [(3, 4), (4, -1)], [(3, -1), (4, 4)], [(5, 4), (4, 4)], [(-2, 4), (4, 4)],
                      [(3, 4), (-1, 4)], [(3, 4), (4, 4), (4, 4)], [[3, 4], [4, 4]], [(3, 4), (4, 4, 4)], [3, 4],
                      [(3, 4), (4, 10 ** 30)], [(3, -10 ** 30), (4, 4)], [(0, 0), (1, 1)], [(3, True), (4, 4)]):
            self.assert_shows(False, moves, self.falls)

    def test_too_many_moves_that_bring_it_in_order(self):
        for more in (self.moves + [(4, 4)], [(3, 0)] + self.moves, self.moves + [(0, 0), (1, 1)], [(4, 2)] + self.moves):
            self.assertTrue(by_hand.is_sorted(by_hand.done_putting(self.row, more)), more)
            self.assert_shows(False, more, self.falls)
            self.assert_shows(False, more, [[3, 0], [4, 1, 2]])
            self.assert_shows(False, more, [[3, 0, 4, 1, 2]])

    def test_wrong_falls(self):
        for falls in ([], [[3, 0], [4, 1]], [[0, 3], [4, 1], [2]], [[3, 0], [1, 4], [2]], [[3, 0], [4, 1], [2], []],
                      [[3, 0], [4, 1], []], [[3, 0, 2], [4, 1]], [[3, 0], [4], [1], [2]], [[3, 0], [4, 1], [2, 2]],
                      [[3, 0], [4, 1], [2], [2]], [[3, 0], [4, 1], [2, 0]], [[4, 3, 0], [1], [2]], [[3], [4, 1, 0], [2]],
                      [[3, 0], [4, 1], [5]], [[3, 0], [4, 1], [-3]], [[3, 0], [4, 1], [2, -1]], [[5, 3, 0], [4, 1], [2]],
                      [(3, 0), (4, 1), (2,)], [[3, 0], [4, True], [2]], [[3, False], [4, 1], [2]], [3, 4, 2],
                      [[3, 0], [4, 1, 2]], [[3, 0], [4, 1], [2], [5]], [[1, 0], [3], [4, 2]]):
            self.assert_shows(False, self.moves, falls)

    def test_every_answer_of_small_numbers(self):
        told_falls = [[], [[0]], [[1, 0]], [[0, 1]], [[0], [1]], [[2, 1, 0]], [[2, 1], [0]], [[2, 0], [1]], [[1, 0], [2]],
                      [[1], [0, 2]], [[0], [1], [2]], [[]], [[0], []]]
        for row in all_rows(3):
            one_move = list(product(range(-1, len(row) + 1), repeat=2))
            for falls in told_falls:
                for number in range(3):
                    for moves in product(one_move, repeat=number):
                        right = by_hand.judged_put(row, list(moves), falls)
                        self.assertIs(Put(list(moves), falls).shows(row), right, (row, moves, falls))

    def test_every_count_of_moves_of_four_things(self):
        one_move = list(product(range(4), repeat=2))
        for row in permutations(range(4)):
            falls = put(list(row)).falls
            for moves in product(one_move, repeat=4 - len(falls)):
                right = by_hand.judged_put(list(row), list(moves), falls)
                self.assertIs(Put(list(moves), falls).shows(list(row)), right, (row, moves, falls))

    def right_moves(self, row, chance):
        """The fewest moves, in any turn, each to any place that will do."""
        few = put(row)
        moved = [thing for thing, place in few.moves]
        chance.shuffle(moved)
        settled = set(row) - set(moved)
        done = list(row)
        moves = []
        for thing in moved:
            done.remove(thing)
            places = [place for place in range(len(row))
                      if all(other < thing for other in done[:place] if other in settled)
                      and all(other > thing for other in done[place:] if other in settled)]
            place = chance.choice(places)
            done.insert(place, thing)
            settled.add(thing)
            moves.append((thing, place))
        return moves, few.falls

    def test_moves_in_any_turn_to_any_place_that_will_do(self):
        chance = Random(22)
        for row in [shuffled(many, seed) for many in range(4, 24) for seed in range(20)]:
            moves, falls = self.right_moves(row, chance)
            self.assertTrue(by_hand.judged_put(row, moves, falls))
            self.assertIs(Put(moves, falls).shows(row), True)
            for at, (thing, place) in enumerate(moves):
                for other in (place - 1, place + 1, chance.randrange(len(row))):
                    changed = moves[:at] + [(thing, other)] + moves[at + 1:]
                    right = by_hand.judged_put(row, changed, falls)
                    self.assertIs(Put(changed, falls).shows(row), right, (row, changed))

    def test_very_many_things(self):
        row = backwards(MANY)
        rising = [(thing, MANY - 1) for thing in range(1, MANY)]
        self.assertIs(Put(rising, [row]).shows(row), True)
        self.assertIs(Put(rising, [row[::-1]]).shows(row), False)
        self.assertIs(Put(rising[::-1], [row]).shows(row), False)
        self.assertIs(Put(rising, [row[:MANY // 2], row[MANY // 2:]]).shows(row), False)
        falling = [(thing, 0) for thing in range(MANY - 2, -1, -1)]
        self.assertIs(Put(falling, [row]).shows(row), True)
        falling[MANY // 2] = (falling[MANY // 2][0], 1)
        self.assertIs(Put(falling, [row]).shows(row), False)
        self.assertIs(Put([(0, 0)] * (MANY - 1), [row]).shows(row), False)

    def test_very_many_falls(self):
        row = in_pairs(MANY)
        falls = [[thing + 1, thing] for thing in range(0, MANY, 2)]
        self.assertIs(Put([(thing, thing) for thing in range(0, MANY, 2)], falls).shows(row), True)
        self.assertIs(Put([(thing + 1, thing + 1) for thing in range(0, MANY, 2)], falls[::-1]).shows(row), True)
        self.assertIs(Put([(thing + 1, thing) for thing in range(0, MANY, 2)], falls).shows(row), False)
        self.assertIs(Put([], falls).shows(row), False)


if __name__ == "__main__":
    unittest.main()
