import unittest

from helper import every_council, table_of, text_of
from weighvote.councils import Council, weighted
from weighvote.errors import BadText
from weighvote.notes import read, written

TEXTS = {text_of(members, table): (members, table)
         for members in range(1, 6) for council, table in every_council(members)}

# All signs of these texts, and signs that look or count like them.
SIGNS = " :-,;0123456789\n\t\r\0_+.aA\u00a0\u2003\u00b2\u0661\u0967\uff11\u2212\u2013\uff1a"


class Written(unittest.TestCase):
    def test_every_council_to_the_sign(self):
        for members in range(1, 6):
            for council, table in every_council(members):
                text = written(council)
                self.assertIs(text.__class__, str)
                self.assertEqual(text, text_of(members, table))
                self.assertEqual(council.members, members)

    def test_by_hand(self):
        self.assertEqual(written(Council(4, [3, 12])), "4: 01 23")
        self.assertEqual(written(Council(4, [12, 3, 12, 15])), "4: 01 23")
        self.assertEqual(written(Council(5, [16, 3])), "5: 01 4")
        self.assertEqual(written(Council(5, [24, 7, 17])), "5: 012 04 34")
        self.assertEqual(written(Council(5, [31])), "5: 01234")
        self.assertEqual(written(Council(3, [4, 2, 1])), "3: 0 1 2")
        self.assertEqual(written(Council(1, [1])), "1: 0")
        self.assertEqual(written(weighted([2, 1, 1], 3)), "3: 01 02")

    def test_by_the_numbers_of_the_groups_not_by_their_signs(self):
        self.assertEqual(written(Council(3, [6, 1])), "3: 0 12")
        self.assertEqual(written(Council(4, [9, 6])), "4: 12 03")
        self.assertEqual(written(Council(4, [8, 3])), "4: 01 3")
        self.assertEqual(written(Council(4, [9, 4])), "4: 2 03")

    def test_nobody_and_no_group(self):
        for members in range(1, 6):
            self.assertEqual(written(Council(members, [0])), f"{members}: -")
            self.assertEqual(written(Council(members, [])), f"{members}:")


class Read(unittest.TestCase):
    def test_every_council(self):
        self.assertEqual(len(TEXTS), 3 + 6 + 20 + 168 + 7581)
        for text, (members, table) in TEXTS.items():
            council = read(text)
            self.assertIsInstance(council, Council)
            self.assertEqual((council.members, table_of(council)), (members, table))

    def test_read_what_is_written(self):
        for council, table in every_council(4):
            again = read(written(council))
            self.assertEqual((again.members, table_of(again)), (4, table))
            self.assertEqual(written(again), written(council))

    def check(self, text):
        """Reads just what is the text of a council."""
        if text in TEXTS:
            council = read(text)
            self.assertEqual((council.members, table_of(council)), TEXTS[text])
        else:
            with self.assertRaises(BadText, msg=repr(text)):
                read(text)

    def near(self, text):
        for place in range(len(text) + 1):
            for sign in SIGNS:
                yield text[:place] + sign + text[place:]
                yield text[:place] + sign + text[place + 1:]
            yield text[:place] + text[place + 1:]
            yield text[place:]
            yield text[:place]

    def test_a_sign_put_in_left_out_or_changed(self):
        texts = [text for text in TEXTS if text[0] in "123"] + [text for text in TEXTS if text[0] in "45"][::211]
        for text in texts + ["4: 01 23", "5: 01234", "5:", "5: -", "4: 12 03"]:
            for other in self.near(text):
                self.check(other)

    def test_all_short_texts(self):
        short = [""]
        for length in range(5):
            for text in short:
                self.check(text)
            short = [text + sign for text in short for sign in " :-012356\n"]

    def test_blanks(self):
        for wrong in (" 4: 01 23", "4 : 01 23", "4:  01 23", "4: 01  23", "4: 01 23 ", "4:01 23", "4: 0123 ", "4: 01\t23",
                      "4: 01 23\n", "4: 01\n23", "\n4: 01 23", "4:\t01 23", "4: ", "4:  ", "4: - ", "4:-", "4:  -",
                      "4", "4 01 23", ": 01 23", "401 23", "4: 01 2 3 ", "4 :", "4: 01: 23"):
            self.assertRaises(BadText, read, wrong)
        self.assertEqual(read("4: 01 23").least(), [3, 12])
        self.assertEqual(read("4: 01 2 3").least(), [3, 4, 8])

    def test_groups_out_of_order_twice_or_not_least(self):
        for wrong in ("4: 23 01", "4: 03 12", "4: 01 01", "4: 01 23 23", "4: 01 012", "4: 0 01", "4: 01 23 0123",
                      "4: - 0", "4: - -", "4: - 01", "4: 01 -", "4: 0 1 01", "3: 12 0", "1: 0 0", "1: - 0"):
            self.assertRaises(BadText, read, wrong)

    def test_figures_within_a_group(self):
        for wrong in ("4: 10", "4: 00", "4: 001", "4: 32", "4: 0-", "4: -0", "4: --", "4: 0,1", "4: 021"):
            self.assertRaises(BadText, read, wrong)

    def test_members_that_there_are_not(self):
        for members in range(1, 6):
            for wrong in range(members, 10):
                self.assertRaises(BadText, read, f"{members}: {wrong}")
                self.assertRaises(BadText, read, f"{members}: 0{wrong}")
            self.assertEqual(read(f"{members}: {members - 1}").least(), [2 ** (members - 1)])

    def test_counts(self):
        for wrong in ("0:", "0: -", "6:", "6: 0", "9: 01", "10: 0", "04: 01 23", "44: 01 23", "+4: 01 23", "-4: 01 23",
                      "4.0: 01 23", "4_: 01 23", ":", "-: 0", "four: 0", "4:: 01 23", "4; 01 23"):
            self.assertRaises(BadText, read, wrong)

    def test_other_digits(self):
        for wrong in ("\u0664: 01 23", "\uff14: 01 23", "4: \u0660\u0661 23", "4: \uff10\uff11", "4: 0\u00b9",
                      "\u2463: 01", "4: \u2070", "\u00b2:", "\u0967: 0"):
            self.assertRaises(BadText, read, wrong)

    def test_an_empty_text_and_no_text(self):
        for wrong in ("", " ", "\n", None, 4, 0, True, False, 4.0, b"4: 01 23", ["4: 01 23"], ("4: 01 23",), [], {},
                      Council(4, [3, 12]), ["4", ":", " ", "0"]):
            self.assertRaises(BadText, read, wrong)

    def test_long_texts(self):
        for wrong in ("4: 01 23" * 50, "4:" + " 01" * 5000, "4" * 5000, "4: " + "01" * 5000, " " * 5000):
            self.assertRaises(BadText, read, wrong)


if __name__ == "__main__":
    unittest.main()
