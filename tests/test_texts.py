import unittest

from backorder.errors import BadRow, BadText
from backorder.texts import read, written
from tests.samples import MANY, Thorny, all_rows, backwards, bad_rows, in_order, one_ring, shuffled, shuffled_rows

SIGNS = [" ", "  ", "\t", "\n", "\r", "\0", "\v", "\f", "+", "-", "_", ",", ".", "~", "a", "e", "x", "0", "1", "9"]


class Written(unittest.TestCase):
    def test_told_ones(self):
        self.assertEqual(written([]), "-")
        self.assertEqual(written([0]), "0")
        self.assertEqual(written([1, 0]), "1 0")
        self.assertEqual(written([10, 2, 0, 1, 3, 4, 5, 6, 7, 8, 9]), "10 2 0 1 3 4 5 6 7 8 9")

    def test_very_many_things(self):
        self.assertEqual(written(in_order(MANY)), " ".join(map(str, range(MANY))))
        self.assertEqual(written(backwards(MANY + 1)), " ".join(map(str, range(MANY, -1, -1))))

    def test_what_is_no_row_is_refused(self):
        for wrong_one in bad_rows():
            with self.assertRaises(BadRow):
                written(wrong_one)

    def test_nothing_handed_in_is_changed(self):
        row = [2, 0, 1]
        self.assertIs(type(written(row)), str)
        self.assertEqual(row, [2, 0, 1])


class Read(unittest.TestCase):
    def assert_refused(self, text):
        with self.assertRaises(BadText, msg=repr(text)):
            read(text)

    def test_told_ones(self):
        self.assertEqual(read("-"), [])
        self.assertEqual(read("0"), [0])
        self.assertEqual(read("1 0"), [1, 0])
        self.assertEqual(read("10 2 0 1 3 4 5 6 7 8 9"), [10, 2, 0, 1, 3, 4, 5, 6, 7, 8, 9])

    def test_what_is_written_is_read(self):
        for row in all_rows(6) + shuffled_rows():
            told = read(written(row))
            self.assertEqual(told, row)
            self.assertIs(type(told), list)
            self.assertTrue(all(type(thing) is int for thing in told))

    def test_very_many_things(self):
        for row in (in_order(MANY), backwards(MANY), one_ring(MANY + 1), shuffled(MANY, 31)):
            self.assertEqual(read(written(row)), row)

    def test_very_many_things_written_wrong(self):
        text = written(in_order(MANY))
        for wrong_one in (text + " ", " " + text, text + " 0", text + " 1000001", text[:-1], text + "\n", text[2:]):
            with self.assertRaises(BadText):
                read(wrong_one)

    def test_a_sign_put_in(self):
        for right in ("-", "0", "0 1", "2 0 1", "10 2 0 1 3 4 5 6 7 8 9"):
            for at in range(len(right) + 1):
                for sign in SIGNS:
                    text = right[:at] + sign + right[at:]
                    if text not in ("10 2 0 1 3 4 5 6 7 8 9", "0 1"):
                        self.assert_refused(text)

    def test_a_sign_left_out(self):
        for right in ("-", "0", "0 1", "2 0 1", "10 2 0 1 3 4 5 6 7 8 9"):
            for at in range(len(right)):
                self.assert_refused(right[:at] + right[at + 1:])

    def test_a_sign_in_the_place_of_another(self):
        for right in ("-", "0", "0 1", "2 0 1", "10 2 0 1 3 4 5 6 7 8 9"):
            for at in range(len(right)):
                for sign in SIGNS:
                    text = right[:at] + sign + right[at + 1:]
                    if text != right and text not in ("-", "0"):
                        self.assert_refused(text)

    def test_short_texts(self):
        signs = "012 -+\n"
        short = [""]
        for length in range(4):
            short = short + [text + sign for text in short for sign in signs if len(text) == length]
        read_ones = [text for text in short if self.is_read(text)]
        self.assertEqual(read_ones, ["0", "-", "0 1", "1 0"])

    def is_read(self, text):
        try:
            read(text)
        except BadText:
            return False
        return True

    def test_told_wrong_ones(self):
        for text in ("", " ", "  ", "\n", "- ", " -", "--", "- 0", "0 -", "-0", "- -", "+0", "0 +1", "0 -1", "00", "01", "0 01",
                     "00 1", "0  1", " 0 1", "0 1 ", "0\t1", "0\n1", "0 1\n", "\t0", "0\r", "0,1", "0, 1", "0 1.0", "0 1e0",
                     "0x0", "0 0b1", "1_0", "[]", "[0]", "0 1 one", "None", "0 True",
                     "1", "2", "0 0", "1 1", "0 2", "1 2", "0 1 3", "2 1", "0 1 1", "3 1 0", "0 1 2 0", "9" * 5000,
                     "0 " + "9" * 5000, "0 " + "0" * 5000, "-" + "9" * 5000, "0" * 5000, "0 1" * 5000):
            self.assert_refused(text)

    def test_what_is_no_text_is_refused(self):
        for text in (None, True, False, 0, 1, -1, 10 ** 5000, 0.0, 1j, b"0", b"-", bytearray(b"0"), [], [0], ["0"], ["-"],
                     (), ("0",), {}, {"0": 0}, set(), {"0"}, range(1), iter("0"), object(), str, len, Thorny()):
            with self.assertRaises(BadText):
                read(text)

    def test_what_is_told_is_new(self):
        for text in ("-", "0", "1 0"):
            told = read(text)
            right = list(told)
            told.append(7)
            told[0] = 7
            self.assertEqual(read(text), right)


if __name__ == "__main__":
    unittest.main()
