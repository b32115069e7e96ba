"""Promise 25: papers written as texts and read back."""

import copy
import re
import unittest

from tests.helper import assert_refused, no_numbers
from untoldprimes.errors import NoText
from untoldprimes.notes import read_paper, show_paper
from untoldprimes.papers import paper_of, shows

FOUR = "4:3 2:1 1:0\n4:2 2:1 1:0\n"
TEN = "10:9 5:4 3:2 2:1 1:0\n10:5 5:3 3:2 2:1 1:0\n10:4 5:3 3:2 2:1 1:0\n"
NUMBER = "(0|[1-9][0-9]{0,6})"
WRITTEN = re.compile(f"({NUMBER}:{NUMBER}( {NUMBER}:{NUMBER})*\n)+")
SIGNS = [chr(code) for code in range(32, 127)] + ["\n"]
# Texts of no paper that are written so, each with what is read of it.
READ = (
    ("0:0\n", [[(0, 0)]]),
    ("1:0\n", [[(1, 0)]]),
    ("0:1\n", [[(0, 1)]]),
    ("9999999:9999999\n", [[(9999999, 9999999)]]),
    ("1000000:0 0:1000000\n", [[(1000000, 0), (0, 1000000)]]),
    ("1:2 1:2\n", [[(1, 2), (1, 2)]]),
    ("1:0\n1:0\n", [[(1, 0)], [(1, 0)]]),
    ("1:0\n2:1 1:0\n3:3\n", [[(1, 0)], [(2, 1), (1, 0)], [(3, 3)]]),
    ("10:20 30:40\n", [[(10, 20), (30, 40)]]),
)
BENT = (
    "", "\n", "\n\n", " ", " \n", ":", ":\n", "1", "1\n", "1:", "1:\n", ":1\n", "1:0", "1:0 ", "1:0 \n", " 1:0\n",
    "1:0\n ", "1:0\n \n", "1:0\n\n", "\n1:0\n", "1:0\n\n1:0\n", "1:0  2:1\n", "1:0 2:1", "1:0\n2:1", "1:0\n2:1 ",
    "1 :0\n", "1: 0\n", "1 0\n", "1:0,2:1\n", "1:0:0\n", "1::0\n", ":1:0\n", "1:0:\n", "10\n", "1:0 2\n", "1:0 :\n",
    "12345678:0\n", "0:12345678\n", "10000000:1\n", "1:10000000\n", "00000000:0\n", "01:0\n", "1:00\n", "00:0\n",
    "1:01\n", "0000001:1\n", "0:0000000\n", "+1:0\n", "1:+0\n", "-1:0\n", "1:-1\n", "-0:0\n", "1:-0\n", "1.0:0\n",
    "1_0:0\n", "1:1_0\n", "1e3:0\n", "0x1:0\n", "a:b\n", "a\n", "1:a\n", "None\n", "1:0\n2\n", "1:0\na:0\n",
    "(1, 0)\n", "[[(1, 0)]]\n", "1:0;2:1\n", "1;0\n", "1:0\n2:1  1:0\n", "1:0 1:0 \n1:0\n", "9" * 5999 + "\n",
    "1:0 " * 1499 + "1:0", " " * 6000, "\n" * 6000, ":" * 5999 + "\n",
)


class ShowPaper(unittest.TestCase):
    def test_word_for_word(self):
        self.assertEqual(show_paper(paper_of(4)), FOUR)
        self.assertEqual(show_paper(paper_of(10)), TEN)

    def test_what_is_no_paper_but_read_so(self):
        for text, tables in READ:
            self.assertEqual(show_paper(tables), text)

    def test_the_kind_of_what_is_told(self):
        for bound in (4, 100, 3000):
            text = show_paper(paper_of(bound))
            self.assertIs(type(text), str)
            self.assertEqual(text.count("\n"), len(paper_of(bound)))

    def test_what_is_handed_in_is_not_changed(self):
        paper = paper_of(10)
        wanted = copy.deepcopy(paper)
        self.assertEqual(show_paper(paper), TEN)
        self.assertEqual(paper, wanted)
        paper[0].clear()
        self.assertEqual(show_paper(paper_of(10)), TEN)


class ReadPaper(unittest.TestCase):
    def test_word_for_word(self):
        self.assertEqual(read_paper(FOUR), [[(4, 3), (2, 1), (1, 0)], [(4, 2), (2, 1), (1, 0)]])
        self.assertEqual(read_paper(TEN), paper_of(10))

    def test_there_and_back(self):
        for bound in (*range(4, 300), 1000, 3000):
            text = show_paper(paper_of(bound))
            self.assertEqual(read_paper(text), paper_of(bound))
            self.assertEqual(show_paper(read_paper(text)), text)
            self.assertEqual(shows(bound, read_paper(text)), shows(bound, paper_of(bound)))

    def test_texts_of_no_paper_that_are_written_so(self):
        for text, tables in READ:
            self.assertEqual(read_paper(text), tables)
            self.assertIs(shows(4, read_paper(text)), None)

    def test_each_number_of_figures(self):
        for many in range(1, 8):
            for figure in "123456789":
                word = figure * many
                self.assertEqual(read_paper(f"{word}:{word}\n"), [[(int(word), int(word))]])

    def test_long_texts(self):
        # No assertEqual: to show where such long lists differ takes it minutes.
        self.assertTrue(read_paper("1:0 " * 1499 + "1:0\n") == [[(1, 0)] * 1500])
        self.assertTrue(read_paper("1:0\n" * 1500) == [[(1, 0)]] * 1500)

    def test_the_kinds_of_what_is_told(self):
        for text in (FOUR, TEN, "0:0\n", show_paper(paper_of(3000))):
            told = read_paper(text)
            self.assertIs(type(told), list)
            self.assertEqual({type(table) for table in told}, {list})
            self.assertEqual({type(pair) for table in told for pair in table}, {tuple})
            self.assertEqual({type(number) for table in told for pair in table for number in pair}, {int})

    def test_told_lists_are_the_askers_own(self):
        told = read_paper(TEN)
        told[0].clear()
        told.pop()
        self.assertEqual(read_paper(TEN), paper_of(10))
        told = read_paper("1:0\n1:0\n")
        told[0].append(5)
        self.assertEqual(told[1], [(1, 0)])


class Refused(unittest.TestCase):
    def test_bent_texts(self):
        for text in BENT:
            self.assertIsNone(WRITTEN.fullmatch(text))
            assert_refused(self, NoText, read_paper, text)

    def test_other_signs(self):
        for sign in ("\t", "\r", "\v", "\f", "\x1c", "\x85", "\u2028", "\u00b2", "\u0663", "\uff11", "\0"):
            for text in (f"1{sign}:0\n", f"{sign}:0\n", f"1:0{sign}2:1\n", f"1:0{sign}", f"1:0\n{sign}", f"1:0{sign}\n"):
                assert_refused(self, NoText, read_paper, text)

    def assert_read_if_written(self, text):
        if WRITTEN.fullmatch(text):
            self.assertEqual(show_paper(read_paper(text)), text)
        else:
            assert_refused(self, NoText, read_paper, text)

    def test_a_sign_left_out(self):
        for text in (FOUR, TEN, "100:25 9999999:0\n"):
            for at in range(len(text)):
                self.assert_read_if_written(text[:at] + text[at + 1:])

    def test_a_sign_put_in_or_exchanged(self):
        for text in (FOUR, "10:4 9999999:0\n"):
            for at in range(len(text) + 1):
                for sign in SIGNS:
                    self.assert_read_if_written(text[:at] + sign + text[at:])
                    self.assert_read_if_written(text[:at] + sign + text[at + 1:])

    def test_all_short_texts(self):
        texts = [""]
        for _ in range(5):
            texts = [text + sign for text in texts for sign in "01: \n-"]
            for text in texts:
                self.assert_read_if_written(text)

    def test_what_is_no_text(self):
        for thing in no_numbers():
            if not isinstance(thing, str):
                assert_refused(self, NoText, read_paper, thing)
        for thing in (0, 7, b"1:0\n", ["1:0\n"], paper_of(4)):
            assert_refused(self, NoText, read_paper, thing)

    def test_read_rightly_behind_a_refusal(self):
        assert_refused(self, NoText, read_paper, FOUR[:-1])
        self.assertEqual(read_paper(FOUR), paper_of(4))


if __name__ == "__main__":
    unittest.main()
