import unittest
from copy import deepcopy
from itertools import permutations
from math import lcm, prod
from random import Random

from backorder.errors import BadNumber, BadRings, BadRow
from backorder.rings import of_rings, rings, times, turns
from backorder.rows import back, behind
from tests.samples import (MANY, Thorny, all_rows, backwards, bad_rows, in_order, in_pairs, no_lists, no_numbers,
                           one_ring, shuffled, shuffled_rows, within_itself)


def done_so_often(row, number):
    """The row done one behind the other, step by step."""
    told = in_order(len(row))
    for step in range(number):
        told = behind(told, row)
    return told


def turns_by_doing(row):
    told = list(row)
    number = 1
    while told != in_order(len(row)):
        told = behind(told, row)
        number += 1
    return number


def row_of_lengths(lengths):
    row = []
    for length in lengths:
        first = len(row)
        row.extend(range(first + 1, first + length))
        row.append(first)
    return row


def primes(number):
    found = []
    tried = 2
    while len(found) < number:
        if all(tried % prime for prime in found):
            found.append(tried)
        tried += 1
    return found


class Rings(unittest.TestCase):
    def test_told_ones(self):
        self.assertEqual(rings([1, 2, 0]), [[0, 1, 2]])
        self.assertEqual(rings([2, 0, 1]), [[0, 2, 1]])
        self.assertEqual(rings([3, 1, 4, 0, 2]), [[0, 3], [1], [2, 4]])
        self.assertEqual(rings([0, 4, 3, 2, 5, 1]), [[0], [1, 4, 5], [2, 3]])

    def test_as_the_point_tells_them(self):
        for row in all_rows(6) + shuffled_rows():
            told = rings(row)
            self.assertIs(type(told), list)
            for ring in told:
                self.assertIs(type(ring), list)
                self.assertEqual(ring[0], min(ring))
                for at, thing in enumerate(ring):
                    self.assertEqual(row[thing], ring[(at + 1) % len(ring)])
            firsts = [ring[0] for ring in told]
            self.assertEqual(firsts, sorted(firsts))
            self.assertEqual(sorted(thing for ring in told for thing in ring), in_order(len(row)))

    def test_edges(self):
        self.assertEqual(rings([]), [])
        self.assertEqual(rings([0]), [[0]])
        self.assertEqual(rings(in_order(5)), [[0], [1], [2], [3], [4]])
        self.assertEqual(rings(backwards(5)), [[0, 4], [1, 3], [2]])
        self.assertEqual(rings(backwards(4)), [[0, 3], [1, 2]])
        self.assertEqual(rings(one_ring(6)), [[0, 1, 2, 3, 4, 5]])

    def test_very_many_things(self):
        self.assertEqual(rings(one_ring(MANY)), [in_order(MANY)])
        self.assertEqual(rings(in_order(MANY)), [[thing] for thing in range(MANY)])
        self.assertEqual(rings(backwards(MANY)), [[thing, MANY - 1 - thing] for thing in range(MANY // 2)])

    def test_somewhat_more_things_are_not_refused(self):
        self.assertEqual(rings(one_ring(MANY + 1)), [in_order(MANY + 1)])

    def test_what_is_no_row_is_refused(self):
        for wrong_one in bad_rows():
            with self.assertRaises(BadRow):
                rings(wrong_one)

    def test_nothing_handed_in_is_changed_and_what_is_told_is_new(self):
        row = [3, 1, 4, 0, 2]
        told = rings(row)
        told[0][0] = 9
        told[1].append(9)
        told.append([9])
        self.assertEqual(row, [3, 1, 4, 0, 2])
        self.assertEqual(rings(row), [[0, 3], [1], [2, 4]])
        empty = rings([])
        empty.append([0])
        self.assertEqual(rings([]), [])


class OfRings(unittest.TestCase):
    def test_told_ones(self):
        self.assertEqual(of_rings(3, [[0, 1, 2]]), [1, 2, 0])
        self.assertEqual(of_rings(3, [[2, 1, 0]]), [2, 0, 1])
        self.assertEqual(of_rings(5, [[4, 2], [3, 0]]), [3, 1, 4, 0, 2])
        self.assertEqual(of_rings(4, [[2]]), [0, 1, 2, 3])

    def test_back_from_the_rings(self):
        for row in all_rows(6) + shuffled_rows():
            self.assertEqual(of_rings(len(row), rings(row)), row)

    def test_without_the_things_alone(self):
        for row in all_rows(6) + shuffled_rows():
            self.assertEqual(of_rings(len(row), [ring for ring in rings(row) if len(ring) > 1]), row)

    def test_begun_with_any_thing_in_any_turn(self):
        for row in all_rows(5):
            told = rings(row)
            for begun in range(len(row)):
                turned = [ring[begun % len(ring):] + ring[:begun % len(ring)] for ring in told]
                for order in permutations(turned):
                    self.assertEqual(of_rings(len(row), list(order)), row)

    def test_some_things_alone_told_and_some_not(self):
        chance = Random(8)
        for row in shuffled_rows():
            told = [ring for ring in rings(row) if len(ring) > 1 or chance.random() < 0.5]
            chance.shuffle(told)
            self.assertEqual(of_rings(len(row), told), row)
        self.assertEqual(of_rings(5, [[3], [2, 1]]), [0, 2, 1, 3, 4])

    def test_edges(self):
        self.assertEqual(of_rings(0, []), [])
        self.assertEqual(of_rings(1, []), [0])
        self.assertEqual(of_rings(1, [[0]]), [0])
        self.assertEqual(of_rings(4, []), [0, 1, 2, 3])
        self.assertEqual(of_rings(3, [[2], [0], [1]]), [0, 1, 2])

    def test_very_many_things(self):
        self.assertEqual(of_rings(MANY, []), in_order(MANY))
        self.assertEqual(of_rings(MANY, [in_order(MANY)]), one_ring(MANY))
        self.assertEqual(of_rings(MANY, [[thing] for thing in range(MANY)]), in_order(MANY))
        self.assertEqual(of_rings(MANY, [[MANY - 1 - thing, thing] for thing in range(MANY // 2)]), backwards(MANY))

    def test_what_is_no_count_is_refused(self):
        for many in no_numbers() + [-1, -2, MANY + 1, 10 ** 30, -10 ** 30, 10 ** 5000]:
            with self.assertRaises(BadNumber):
                of_rings(many, [])

    def test_what_are_no_rings_is_refused(self):
        for told in no_lists():
            with self.assertRaises(BadRings):
                of_rings(2, told)
            with self.assertRaises(BadRings):
                of_rings(2, [told])
            with self.assertRaises(BadRings):
                of_rings(2, [[0, 1], told])

    def test_an_empty_ring_is_refused(self):
        for many in (0, 1, 3):
            for told in ([[]], [[], []]):
                with self.assertRaises(BadRings):
                    of_rings(many, told)
        for told in ([[0], []], [[], [0]], [[0, 1, 2], []]):
            with self.assertRaises(BadRings):
                of_rings(3, told)

    def test_a_thing_twice_is_refused(self):
        ring = [0, 1]
        for told in ([[0, 0]], [[0, 1, 0]], [[0], [0]], [[0, 1], [1]], [[2], [0, 1], [1, 2]], [ring, ring],
                     [[0, 1, 2], [2]], [[1, 2, 2]]):
            with self.assertRaises(BadRings):
                of_rings(3, told)

    def test_a_thing_that_is_none_of_the_row_is_refused(self):
        for many, told in ((0, [[0]]), (1, [[1]]), (3, [[3]]), (3, [[0, 3]]), (3, [[-1]]), (3, [[0, -1]]), (3, [[-3, 1]]),
                           (3, [[0], [7]]), (3, [[10 ** 30]]), (3, [[-10 ** 5000]]), (MANY, [[MANY]])):
            with self.assertRaises(BadRings):
                of_rings(many, told)

    def test_what_is_no_number_in_a_ring_is_refused(self):
        for thing in no_numbers() + [Thorny(), within_itself()]:
            for told in ([[thing]], [[0, thing]], [[thing, 2]], [[0], [thing]]):
                with self.assertRaises(BadRings):
                    of_rings(3, told)
        with self.assertRaises(BadRings):
            of_rings(3, within_itself())

    def test_a_bad_count_comes_ahead_of_bad_rings(self):
        for many in (-1, MANY + 1, None, True, False, "3", 1.0):
            for told in (None, [[]], [[0, 0]], [0], [[True]], [[9]]):
                with self.assertRaises(BadNumber):
                    of_rings(many, told)

    def test_nothing_handed_in_is_changed_and_what_is_told_is_new(self):
        told = [[4, 2], [3, 0]]
        held = deepcopy(told)
        row = of_rings(5, told)
        self.assertEqual(told, held)
        row[0] = 9
        row.append(9)
        self.assertEqual(told, held)
        self.assertEqual(of_rings(5, told), [3, 1, 4, 0, 2])
        again = of_rings(5, told)
        told[0][0] = 1
        told.append([])
        self.assertEqual(again, [3, 1, 4, 0, 2])
        whole = [[0]]
        self.assertIsNot(of_rings(1, whole), whole[0])


class Turns(unittest.TestCase):
    def test_told_ones(self):
        self.assertEqual(turns([1, 2, 0]), 3)
        self.assertEqual(turns([1, 0, 3, 4, 2]), 6)
        self.assertEqual(turns([1, 0, 3, 4, 5, 2]), 4)

    def test_the_least_number_by_doing(self):
        for row in all_rows(6) + [shuffled(many, many) for many in range(7, 25)]:
            self.assertEqual(turns(row), turns_by_doing(row))

    def test_edges(self):
        self.assertEqual(turns([]), 1)
        self.assertEqual(turns([0]), 1)
        self.assertEqual(turns(in_order(9)), 1)
        self.assertEqual(turns(backwards(9)), 2)
        self.assertEqual(turns(one_ring(9)), 9)

    def test_lengths_that_share(self):
        self.assertEqual(turns(row_of_lengths([4, 6])), 12)
        self.assertEqual(turns(row_of_lengths([6, 10, 15])), 30)
        self.assertEqual(turns(row_of_lengths([8, 4, 2, 1])), 8)
        self.assertEqual(turns(row_of_lengths([12, 18, 1, 18, 27])), 108)

    def test_very_many_things(self):
        self.assertEqual(turns(in_order(MANY)), 1)
        self.assertEqual(turns(one_ring(MANY)), MANY)
        self.assertEqual(turns(backwards(MANY)), 2)

    def test_very_many_turns(self):
        lengths = primes(500)
        self.assertEqual(turns(row_of_lengths(lengths)), prod(lengths))

    def test_very_many_lengths(self):
        self.assertEqual(turns(row_of_lengths(range(1, 1414))), lcm(*range(1, 1414)))

    def test_what_is_no_row_is_refused(self):
        for wrong_one in bad_rows():
            with self.assertRaises(BadRow):
                turns(wrong_one)

    def test_nothing_handed_in_is_changed(self):
        row = [1, 0, 3, 4, 2]
        turns(row)
        self.assertEqual(row, [1, 0, 3, 4, 2])


class Times(unittest.TestCase):
    def test_told_ones(self):
        self.assertEqual(times([1, 2, 3, 0], 1), [1, 2, 3, 0])
        self.assertEqual(times([1, 2, 3, 0], 2), [2, 3, 0, 1])
        self.assertEqual(times([1, 2, 3, 0], -1), [3, 0, 1, 2])
        self.assertEqual(times([1, 0, 3, 4, 2], 3), [1, 0, 2, 3, 4])

    def test_one_behind_the_other(self):
        for row in all_rows(5) + shuffled_rows():
            for number in range(8):
                self.assertEqual(times(row, number), done_so_often(row, number))

    def test_below_nought_its_back(self):
        for row in all_rows(5) + shuffled_rows():
            for number in range(1, 8):
                self.assertEqual(times(row, -number), done_so_often(back(row), number))

    def test_nought_is_in_order(self):
        for row in all_rows(5) + shuffled_rows():
            self.assertEqual(times(row, 0), in_order(len(row)))

    def test_about_the_turns(self):
        for row in all_rows(5) + shuffled_rows():
            number = turns(row)
            self.assertEqual(times(row, number), in_order(len(row)))
            self.assertEqual(times(row, number + 1), row)
            self.assertEqual(times(row, number - 1), back(row))
            self.assertEqual(times(row, -number), in_order(len(row)))
            self.assertEqual(times(row, -number - 1), back(row))

    def test_very_great_numbers(self):
        for row in shuffled_rows():
            number = turns(row)
            for great in (10 ** 18, 10 ** 400, 7 ** 20000):
                for rest in (0, 1, 2, 5):
                    self.assertEqual(times(row, number * great + rest), done_so_often(row, rest))
                    self.assertEqual(times(row, -number * great - rest), done_so_often(back(row), rest))
        self.assertEqual(times([1, 2, 0], 10 ** 18), [1, 2, 0])
        self.assertEqual(times([1, 2, 0], -10 ** 18), [2, 0, 1])
        self.assertEqual(times([1, 2, 0], 10 ** 18 + 1), [2, 0, 1])

    def test_edges(self):
        for number in (0, 1, -1, 2, 10 ** 30, -10 ** 30):
            self.assertEqual(times([], number), [])
            self.assertEqual(times([0], number), [0])
            self.assertEqual(times(in_order(6), number), in_order(6))
        self.assertEqual(times(backwards(6), 10 ** 30), in_order(6))
        self.assertEqual(times(backwards(6), 10 ** 30 + 1), backwards(6))

    def test_very_many_things(self):
        self.assertEqual(times(one_ring(MANY), 10 ** 30 + 3), list(range(3, MANY)) + [0, 1, 2])
        self.assertEqual(times(one_ring(MANY), -10 ** 30 - 1), [MANY - 1] + in_order(MANY - 1))
        self.assertEqual(times(in_order(MANY), 10 ** 30 + 3), in_order(MANY))

    def test_very_many_rings_a_very_great_number_of_times(self):
        great = 1 << 4000000
        self.assertEqual(times(in_pairs(MANY), great), in_order(MANY))
        self.assertEqual(times(in_pairs(MANY), -great - 1), in_pairs(MANY))

    def test_what_is_no_row_is_refused(self):
        for wrong_one in bad_rows():
            with self.assertRaises(BadRow):
                times(wrong_one, 1)

    def test_what_is_no_number_is_refused(self):
        for number in no_numbers():
            for row in ([], [0], [1, 0, 2]):
                with self.assertRaises(BadNumber):
                    times(row, number)

    def test_a_bad_row_comes_ahead_of_a_bad_number(self):
        for row in (None, (), [1], [0, 0], [True], [-1], ["0"]):
            for number in (None, True, False, "1", 1.0, [1], Thorny()):
                with self.assertRaises(BadRow):
                    times(row, number)

    def test_nothing_handed_in_is_changed_and_what_is_told_is_new(self):
        for row in ([], [0], [0, 1], [1, 2, 0], [1, 0, 3, 4, 2]):
            held = list(row)
            for number in (-1, 0, 1, 2, 6, 7):
                told = times(row, number)
                right = list(told)
                self.assertIsNot(told, row)
                told.append(7)
                told[0] = 7
                self.assertEqual(row, held)
                self.assertEqual(times(row, number), right)


if __name__ == "__main__":
    unittest.main()
