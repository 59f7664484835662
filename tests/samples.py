"""Rows and wrong inputs that several tests share."""

from itertools import permutations
from random import Random

MANY = 1000000


class Thorny:
    """Of a kind of its own, and not to be compared, counted, walked or shown."""

    __hash__ = None

    def fail(self, *others):
        raise RuntimeError("touched")

    __eq__ = __lt__ = __le__ = __gt__ = __ge__ = __len__ = __iter__ = fail
    __bool__ = __index__ = __int__ = __repr__ = __str__ = __getitem__ = fail


def within_itself():
    row = []
    row.append(row)
    return row


def all_rows(most):
    return [list(row) for many in range(most + 1) for row in permutations(range(many))]


def shuffled(many, seed):
    row = list(range(many))
    Random(seed).shuffle(row)
    return row


def shuffled_rows():
    return [shuffled(many, seed) for many in (7, 12, 33, 64, 65, 100) for seed in (1, 2, 3)]


def in_order(many):
    return list(range(many))


def backwards(many):
    return list(range(many - 1, -1, -1))


def one_ring(many):
    return list(range(1, many)) + [0]


def in_pairs(many):
    return [place ^ 1 for place in range(many)]


def no_numbers():
    return [True, False, None, "", "1", 0.0, 1.0, 2.5, float("nan"), float("inf"), 1j, b"1", [], [1], (), (1,),
            {}, {1: 1}, set(), range(2), object(), int, len, Thorny()]


def no_lists():
    return [(), (0,), (0, 1), "", "0", "0 1", "-", 0, 1, -1, 10 ** 5000, None, True, False, 0.0, {}, {0: 0},
            {0: 0, 1: 1}, set(), {0, 1}, frozenset([0]), range(0), range(2), iter([0]), (x for x in [0]),
            b"", bytearray(b"\x00"), object(), list, Thorny()]


def bad_rows():
    """No lists, and lists that aren't rows."""
    return no_lists() + [
        [0, 0], [1, 1], [0, 1, 1], [2, 0, 2], [0, 1, 2, 0],
        [1], [2], [0, 2], [1, 2], [0, 1, 3], [3, 1, 0], [1, 2, 3],
        [-1], [0, -1], [-1, 0], [-2, -1], [1, 0, -1], [2, -2, 0],
        [10 ** 30], [0, 10 ** 5000], [-10 ** 5000, 0],
        [True], [False], [False, True], [True, False], [0, True], [False, 1], [True, 0], [2, True, 0], [2, 1, False],
        ["0"], [0, "1"], ["1", 0], [""], [None], [0, None], [None, 0], [[]], [[0]], [0, [1]], [[0], [1]], [(0,)],
        [0.0], [0, 1.0], [1.0, 0.0], [float("nan")], [0j], [b"0"], [{}], [0, {}], [set()], [object()],
        [Thorny()], [0, Thorny()], [Thorny(), 0], within_itself(),
        in_order(MANY - 1) + [0], in_order(MANY - 1) + [MANY], in_order(MANY - 1) + [None], [False] + in_order(MANY)[1:],
    ]
