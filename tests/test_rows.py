import unittest
from bisect import bisect_right, insort

from backorder.errors import BadRow, Unlike
from backorder.rows import back, behind, wrong
from tests.samples import (MANY, all_rows, backwards, bad_rows, in_order, in_pairs, one_ring, shuffled,
                           shuffled_rows)


def done_to(row, other):
    """What the row does to the other one, as point 2 tells it."""
    return [other[row[place]] for place in range(len(row))]


def wrong_by_all_pairs(row):
    return sum(row[ahead] > row[behind_it] for behind_it in range(len(row)) for ahead in range(behind_it))


def wrong_by_putting_in(row):
    ahead = []
    pairs = 0
    for thing in row:
        pairs += len(ahead) - bisect_right(ahead, thing)
        insort(ahead, thing)
    return pairs


class Behind(unittest.TestCase):
    def test_a_told_one(self):
        self.assertEqual(behind([1, 2, 0], [0, 2, 1]), [1, 0, 2])
        self.assertEqual(behind([0, 2, 1], [1, 2, 0]), [2, 1, 0])
        self.assertEqual(behind([2, 0, 3, 1], [3, 2, 0, 1]), [1, 3, 2, 0])

    def test_place_by_place(self):
        for one in all_rows(4):
            for other in all_rows(4):
                if len(one) == len(other):
                    told = behind(one, other)
                    for place in range(len(one)):
                        self.assertEqual(told[place], one[other[place]])
                    self.assertEqual(len(told), len(one))

    def test_does_what_the_one_does_and_the_other_behind_it(self):
        one, other, third = shuffled(50, 1), shuffled(50, 2), shuffled(50, 3)
        self.assertEqual(done_to(behind(one, other), third), done_to(other, done_to(one, third)))

    def test_edges(self):
        self.assertEqual(behind([], []), [])
        self.assertEqual(behind([0], [0]), [0])
        for row in shuffled_rows():
            many = len(row)
            self.assertEqual(behind(row, in_order(many)), row)
            self.assertEqual(behind(in_order(many), row), row)
            self.assertEqual(behind(row, backwards(many)), row[::-1])
            self.assertEqual(behind(backwards(many), backwards(many)), in_order(many))

    def test_very_many_things(self):
        self.assertEqual(behind(one_ring(MANY), backwards(MANY)), one_ring(MANY)[::-1])
        row = shuffled(MANY, 4)
        self.assertEqual(behind(row, in_order(MANY)), row)

    def test_somewhat_more_things_are_not_refused(self):
        self.assertEqual(behind(backwards(MANY + 1), backwards(MANY + 1)), in_order(MANY + 1))

    def test_what_is_no_row_is_refused(self):
        for wrong_one in bad_rows():
            with self.assertRaises(BadRow):
                behind(wrong_one, [0])
            with self.assertRaises(BadRow):
                behind([0], wrong_one)
            with self.assertRaises(BadRow):
                behind(wrong_one, wrong_one)

    def test_other_counts_are_refused(self):
        for one, other in (([], [0]), ([0], []), ([0], [0, 1]), ([1, 0], [0]), ([0, 1, 2], [1, 0])):
            with self.assertRaises(Unlike):
                behind(one, other)
        with self.assertRaises(Unlike):
            behind(in_order(MANY), in_order(MANY - 1))

    def test_a_bad_row_comes_ahead_of_other_counts(self):
        for one, other in (([0, 0], [0]), ([0], [0, 0]), ([], [1]), ([1], []), ([0, True], [0]), ((), [0]),
                           ([0, 1, 2], [0, -1])):
            with self.assertRaises(BadRow):
                behind(one, other)

    def test_nothing_handed_in_is_changed_or_kept(self):
        one, other = [1, 2, 0], [0, 2, 1]
        told = behind(one, other)
        self.assertEqual((one, other), ([1, 2, 0], [0, 2, 1]))
        told[0] = 9
        told.append(9)
        self.assertEqual((one, other), ([1, 2, 0], [0, 2, 1]))
        self.assertEqual(behind(one, other), [1, 0, 2])

    def test_what_is_told_is_new(self):
        for one, other in (([], []), ([0], [0]), ([0, 1], [0, 1]), ([1, 0], [0, 1])):
            told = behind(one, other)
            self.assertIsNot(told, one)
            self.assertIsNot(told, other)
            self.assertIsNot(told, behind(one, other))

    def test_a_row_behind_itself(self):
        row = [1, 2, 0]
        self.assertEqual(behind(row, row), [2, 0, 1])
        self.assertEqual(row, [1, 2, 0])


class Back(unittest.TestCase):
    def test_a_told_one(self):
        self.assertEqual(back([1, 2, 0]), [2, 0, 1])
        self.assertEqual(back([3, 0, 2, 1]), [1, 3, 2, 0])

    def test_behind_and_ahead_the_row_comes_to_order(self):
        for row in all_rows(6) + shuffled_rows():
            told = back(row)
            self.assertEqual(done_to(told, row), in_order(len(row)))
            self.assertEqual(done_to(row, told), in_order(len(row)))
            self.assertEqual(behind(row, told), in_order(len(row)))
            self.assertEqual(behind(told, row), in_order(len(row)))

    def test_edges(self):
        self.assertEqual(back([]), [])
        self.assertEqual(back([0]), [0])
        self.assertEqual(back(in_order(9)), in_order(9))
        self.assertEqual(back(backwards(9)), backwards(9))

    def test_very_many_things(self):
        self.assertEqual(back(one_ring(MANY)), [MANY - 1] + in_order(MANY - 1))
        row = shuffled(MANY, 5)
        self.assertEqual(done_to(back(row), row), in_order(MANY))

    def test_somewhat_more_things_are_not_refused(self):
        self.assertEqual(back(backwards(MANY + 1)), backwards(MANY + 1))

    def test_what_is_no_row_is_refused(self):
        for wrong_one in bad_rows():
            with self.assertRaises(BadRow):
                back(wrong_one)

    def test_nothing_handed_in_is_changed_and_what_is_told_is_new(self):
        for row in ([], [0], [0, 1], [1, 2, 0]):
            held = list(row)
            told = back(row)
            right = list(told)
            self.assertIsNot(told, row)
            told.append(7)
            told[0] = 7
            self.assertEqual(row, held)
            self.assertEqual(back(row), right)


class Wrong(unittest.TestCase):
    def test_told_ones(self):
        self.assertEqual(wrong([1, 0]), 1)
        self.assertEqual(wrong([2, 0, 1]), 2)
        self.assertEqual(wrong([3, 1, 0, 2]), 4)

    def test_by_all_pairs(self):
        for row in all_rows(7) + shuffled_rows():
            self.assertEqual(wrong(row), wrong_by_all_pairs(row))

    def test_every_count_of_things(self):
        for many in range(70):
            row = shuffled(many, many)
            self.assertEqual(wrong(row), wrong_by_all_pairs(row))
            self.assertEqual(wrong(backwards(many)), many * (many - 1) // 2)
            self.assertEqual(wrong(in_order(many)), 0)

    def test_edges(self):
        self.assertEqual(wrong([]), 0)
        self.assertEqual(wrong([0]), 0)
        self.assertEqual(wrong([0, 1]), 0)

    def test_an_exchange_of_neighbours_makes_one_more_or_less(self):
        for row in shuffled_rows():
            for place in range(len(row) - 1):
                other = list(row)
                other[place], other[place + 1] = row[place + 1], row[place]
                self.assertEqual(wrong(other) - wrong(row), 1 if row[place] < row[place + 1] else -1)

    def test_very_many_things(self):
        self.assertEqual(wrong(in_order(MANY)), 0)
        self.assertEqual(wrong(backwards(MANY)), MANY * (MANY - 1) // 2)
        self.assertEqual(wrong(one_ring(MANY)), MANY - 1)
        self.assertEqual(wrong(in_pairs(MANY)), MANY // 2)
        half = MANY // 2
        self.assertEqual(wrong(list(range(half, MANY)) + in_order(half)), half * half)

    def test_many_shuffled_things(self):
        row = shuffled(100000, 6)
        self.assertEqual(wrong(row), wrong_by_putting_in(row))
        great = shuffled(MANY, 6)
        self.assertEqual(wrong(great) + wrong(great[::-1]), MANY * (MANY - 1) // 2)

    def test_somewhat_more_things_are_not_refused(self):
        self.assertEqual(wrong(one_ring(MANY + 1)), MANY)

    def test_what_is_no_row_is_refused(self):
        for wrong_one in bad_rows():
            with self.assertRaises(BadRow):
                wrong(wrong_one)

    def test_nothing_handed_in_is_changed(self):
        row = [3, 1, 0, 2]
        wrong(row)
        self.assertEqual(row, [3, 1, 0, 2])

    def test_a_plain_number(self):
        for row in all_rows(3):
            self.assertIs(type(wrong(row)), int)


if __name__ == "__main__":
    unittest.main()
