import unittest

from backorder.answers import Ended, Exchanged, Fronted, Put
from backorder.errors import BadRow
from backorder.least import ended, exchanged, fronted, put
from backorder.rings import rings
from tests import by_hand
from tests.samples import (MANY, all_rows, backwards, bad_rows, in_order, in_pairs, no_lists, one_ring, shuffled,
                           shuffled_rows)


def small_and_shuffled():
    return all_rows(6) + shuffled_rows()


def halves(many):
    return list(range(many // 2, many)) + in_order(many // 2)


def very_many():
    return [in_order(MANY), backwards(MANY), one_ring(MANY), in_pairs(MANY), halves(MANY)]


def fields(answer):
    return list(vars(answer).values())


def spoil(answer):
    """Change each list of an answer, those within too."""
    for field in fields(answer):
        for part in field:
            if isinstance(part, list):
                part.append(7)
                part[0] = -1
        field.append(9)
        field[0] = -1


class ForEach(unittest.TestCase):
    def test_what_is_no_row_is_refused(self):
        for wrong_one in bad_rows():
            for made in (exchanged, fronted, ended, put):
                with self.assertRaises(BadRow):
                    made(wrong_one)

    def test_rows_within_rows_are_refused(self):
        for part in no_lists() + [[0], [0, 1]]:
            if not isinstance(part, int) or isinstance(part, bool):
                for made in (exchanged, fronted, ended, put):
                    with self.assertRaises(BadRow):
                        made([part])

    def test_nothing_handed_in_is_changed_or_kept(self):
        for row in ([], [0], [0, 1, 2], [2, 1, 0], [3, 0, 4, 1, 2], in_pairs(6)):
            for made in (exchanged, fronted, ended, put):
                held = list(row)
                spoil(made(row))
                self.assertEqual(row, held)

    def test_what_is_told_is_new(self):
        for row in ([], [0], [0, 1, 2], [2, 1, 0], [3, 0, 4, 1, 2], in_pairs(6)):
            for made in (exchanged, fronted, ended, put):
                right = fields(made(row))
                spoil(made(row))
                again = made(row)
                self.assertEqual(fields(again), right)
                self.assertTrue(again.shows(row))
                row.append(len(row))
                row.pop()
                self.assertEqual(fields(again), right)

    def test_an_answer_stays_when_the_row_changes(self):
        for made in (exchanged, fronted, ended, put):
            row = [3, 0, 4, 1, 2]
            answer = made(row)
            right = fields(made(row))
            row.reverse()
            row.append(5)
            self.assertEqual(fields(answer), right)
            self.assertTrue(answer.shows([3, 0, 4, 1, 2]))

    def test_somewhat_more_things_are_not_refused(self):
        row = one_ring(MANY + 1)
        for made in (exchanged, fronted, ended, put):
            self.assertTrue(made(row).shows(row))


class ByExchanges(unittest.TestCase):
    def test_in_order_by_the_told_count(self):
        for row in small_and_shuffled():
            answer = exchanged(row)
            self.assertIs(type(answer), Exchanged)
            self.assertEqual(by_hand.done_exchanges(row, answer.pairs), in_order(len(row)))
            self.assertEqual(len(answer.pairs), len(row) - by_hand.count_of_rings(row))
            self.assertEqual(answer.rings, rings(row))
            self.assertTrue(by_hand.judged_exchanged(row, answer.pairs, answer.rings))
            self.assertIs(answer.shows(row), True)

    def test_no_shorter_ones(self):
        for row in all_rows(6):
            self.assertEqual(len(exchanged(row).pairs), by_hand.fewest(len(row), by_hand.next_by_exchange)[tuple(row)])

    def test_kinds(self):
        for row in small_and_shuffled():
            answer = exchanged(row)
            self.assertIs(type(answer.pairs), list)
            for pair in answer.pairs:
                self.assertIs(type(pair), tuple)
                self.assertEqual([type(place) for place in pair], [int, int])
                self.assertTrue(0 <= pair[0] < pair[1] < len(row))

    def test_edges(self):
        self.assertEqual(fields(exchanged([])), [[], []])
        self.assertEqual(fields(exchanged([0])), [[], [[0]]])
        self.assertEqual(fields(exchanged([1, 0])), [[(0, 1)], [[0, 1]]])
        self.assertEqual(fields(exchanged(in_order(3))), [[], [[0], [1], [2]]])
        self.assertEqual(len(exchanged(one_ring(9)).pairs), 8)
        self.assertEqual(len(exchanged(backwards(9)).pairs), 4)

    def test_very_many_things(self):
        counts = [0, MANY // 2, MANY - 1, MANY // 2, MANY // 2]
        for row, count in zip(very_many(), counts):
            answer = exchanged(row)
            self.assertEqual(len(answer.pairs), count)
            self.assertTrue(by_hand.is_sorted(by_hand.done_exchanges(row, answer.pairs)))
            self.assertIs(answer.shows(row), True)
            self.assertIs(answer.shows(row + [MANY]), False)

    def test_very_many_shuffled_things(self):
        row = shuffled(MANY, 11)
        answer = exchanged(row)
        self.assertTrue(by_hand.is_sorted(by_hand.done_exchanges(row, answer.pairs)))
        self.assertEqual(len(answer.pairs), MANY - len(rings(row)))
        self.assertIs(answer.shows(row), True)
        self.assertIs(answer.shows(row[::-1]), False)


class ByFronting(unittest.TestCase):
    def test_in_order_by_the_told_count(self):
        for row in small_and_shuffled():
            answer = fronted(row)
            self.assertIs(type(answer), Fronted)
            self.assertEqual(by_hand.done_fronting(row, answer.things), in_order(len(row)))
            self.assertEqual(len(answer.things), by_hand.fewest_to_front(row))
            self.assertEqual(len(set(answer.things)), len(answer.things))
            self.assertTrue(by_hand.judged_fronted(row, answer.things))
            self.assertIs(answer.shows(row), True)

    def test_no_shorter_ones(self):
        for row in all_rows(6):
            self.assertEqual(len(fronted(row).things), by_hand.fewest(len(row), by_hand.next_by_fronting)[tuple(row)])

    def test_kinds(self):
        for row in small_and_shuffled():
            answer = fronted(row)
            self.assertIs(type(answer.things), list)
            self.assertTrue(all(type(thing) is int for thing in answer.things))

    def test_edges(self):
        self.assertEqual(fronted([]).things, [])
        self.assertEqual(fronted([0]).things, [])
        self.assertEqual(fronted([1, 0]).things, [0])
        self.assertEqual(fronted(in_order(5)).things, [])
        self.assertEqual(fronted(backwards(5)).things, [3, 2, 1, 0])
        self.assertEqual(fronted(one_ring(5)).things, [0])
        self.assertEqual(fronted([4, 0, 1, 2, 3]).things, [3, 2, 1, 0])
        self.assertEqual(fronted([2, 0, 3, 1, 4]).things, [1, 0])

    def test_very_many_things(self):
        counts = [0, MANY - 1, 1, MANY - 1, MANY // 2]
        for row, count in zip(very_many(), counts):
            answer = fronted(row)
            self.assertEqual(answer.things, backwards(count))
            self.assertIs(answer.shows(row), True)
            self.assertIs(answer.shows([MANY] + row), False)

    def test_very_many_shuffled_things(self):
        row = shuffled(MANY, 12)
        answer = fronted(row)
        self.assertEqual(answer.things, backwards(len(answer.things)))
        self.assertIs(answer.shows(row), True)
        self.assertIs(answer.shows(row[::-1]), False)


class ByEnding(unittest.TestCase):
    def test_in_order_by_the_told_count(self):
        for row in small_and_shuffled():
            answer = ended(row)
            self.assertIs(type(answer), Ended)
            self.assertEqual(by_hand.done_ending(row, answer.moves), in_order(len(row)))
            self.assertEqual(len(answer.moves), len(row) - by_hand.longest_run(row))
            self.assertTrue(by_hand.judged_ended(row, answer.moves))
            self.assertIs(answer.shows(row), True)

    def test_no_shorter_ones(self):
        for row in all_rows(6):
            self.assertEqual(len(ended(row).moves), by_hand.fewest(len(row), by_hand.next_by_ending)[tuple(row)])

    def test_kinds(self):
        for row in small_and_shuffled():
            answer = ended(row)
            self.assertIs(type(answer.moves), list)
            for move in answer.moves:
                self.assertIs(type(move), tuple)
                self.assertEqual([type(part) for part in move], [int, int])

    def test_edges(self):
        self.assertEqual(ended([]).moves, [])
        self.assertEqual(ended([0]).moves, [])
        self.assertEqual(ended(in_order(5)).moves, [])
        self.assertEqual(ended(one_ring(5)).moves, [(0, 0)])
        self.assertEqual(ended([4, 0, 1, 2, 3]).moves, [(4, 1)])
        self.assertEqual(len(ended([1, 0]).moves), 1)
        self.assertEqual(len(ended(backwards(5)).moves), 4)
        self.assertEqual(len(ended([5, 1, 4, 2, 0, 3]).moves), 3)

    def test_very_many_things(self):
        counts = [0, MANY - 1, 1, MANY - 2, MANY // 2]
        for row, count in zip(very_many(), counts):
            answer = ended(row)
            self.assertEqual(len(answer.moves), count)
            self.assertIs(answer.shows(row), True)
            self.assertIs(answer.shows([MANY] + row), False)

    def test_very_many_shuffled_things(self):
        row = shuffled(MANY, 13)
        answer = ended(row)
        front = [thing for thing, end in answer.moves if end == 0]
        rear = [thing for thing, end in answer.moves if end == 1]
        moved = set(front + rear)
        self.assertEqual(front[::-1] + [thing for thing in row if thing not in moved] + rear, in_order(MANY))
        self.assertIs(answer.shows(row), True)
        self.assertIs(answer.shows(row[::-1]), False)


class ByPutting(unittest.TestCase):
    def test_in_order_by_the_told_count(self):
        for row in small_and_shuffled():
            answer = put(row)
            self.assertIs(type(answer), Put)
            self.assertEqual(by_hand.done_putting(row, answer.moves), in_order(len(row)))
            self.assertEqual(len(answer.moves), len(row) - by_hand.longest_rise(row))
            self.assertTrue(by_hand.judged_put(row, answer.moves, answer.falls))
            self.assertIs(answer.shows(row), True)

    def test_no_shorter_ones(self):
        for row in all_rows(6):
            self.assertEqual(len(put(row).moves), by_hand.fewest(len(row), by_hand.next_by_putting)[tuple(row)])

    def test_kinds(self):
        for row in small_and_shuffled():
            answer = put(row)
            self.assertIs(type(answer.moves), list)
            for move in answer.moves:
                self.assertIs(type(move), tuple)
                self.assertEqual([type(part) for part in move], [int, int])
                self.assertTrue(0 <= move[1] < len(row))
            self.assertIs(type(answer.falls), list)
            for fall in answer.falls:
                self.assertIs(type(fall), list)
                self.assertTrue(all(type(thing) is int for thing in fall))

    def test_edges(self):
        self.assertEqual(fields(put([])), [[], []])
        self.assertEqual(fields(put([0])), [[], [[0]]])
        self.assertEqual(fields(put(in_order(4))), [[], [[0], [1], [2], [3]]])
        self.assertEqual(fields(put(one_ring(4))), [[(0, 0)], [[1, 0], [2], [3]]])
        self.assertEqual(put(backwards(4)).falls, [[3, 2, 1, 0]])
        self.assertEqual(len(put(backwards(4)).moves), 3)
        self.assertEqual(put([3, 0, 1, 2]).moves, [(3, 3)])

    def test_many_shuffled_things_done_by_hand(self):
        for many, seed in ((1000, 1), (3000, 2)):
            row = shuffled(many, seed)
            answer = put(row)
            self.assertTrue(by_hand.judged_put(row, answer.moves, answer.falls))
            self.assertIs(answer.shows(row), True)

    def test_very_many_things(self):
        counts = [0, MANY - 1, 1, MANY // 2, MANY // 2]
        for row, count in zip(very_many(), counts):
            answer = put(row)
            self.assertEqual((len(answer.moves), len(answer.falls)), (count, MANY - count))
            self.assertIs(answer.shows(row), True)
            self.assertIs(answer.shows(row + [MANY]), False)

    def test_very_many_shuffled_things(self):
        row = shuffled(MANY, 14)
        answer = put(row)
        self.assertIs(answer.shows(row), True)
        self.assertIs(answer.shows(row[::-1]), False)
        thing, place = answer.moves[-1]
        answer.moves[-1] = (thing, place - 1 if place > 0 else 1)
        self.assertIs(answer.shows(row), False)


if __name__ == "__main__":
    unittest.main()
