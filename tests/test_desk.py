"""Promise 26: the desk."""

import unittest
import weakref

from tests.helper import Seven, assert_refused, by_hand, by_marks, no_numbers
from untoldprimes.desk import Desk
from untoldprimes.errors import NoCommand, NoPrime, NoRest

PRIMES = by_hand(1300)
# Each kind of row, with its answer where the bound is 100.
ANSWERS = (
    ("bound 100", "ok"),
    ("count", "25"),
    ("sum", "1060"),
    ("squares", "65796"),
    ("parts", "19"),
    ("rests 4", "0 11 1 13"),
    ("rough 3", "26"),
    ("at 999", "7919"),
    ("place 7919", "999"),
    ("next 113", "127"),
    ("last 127", "113"),
    ("between 7 13", "3"),
)
OF_THE_BOUND = ("count", "sum", "squares", "parts", "rests 1", "rests 30", "rough 0", "rough 200")
AT_NOUGHT = ["0", "0", "0", "0", "0", " ".join("0" * 30), "0", "0"]
WITH_ONE = ("bound", "rests", "rough", "at", "place", "next", "last")
WITH_NONE = ("count", "sum", "squares", "parts")
NO_NUMBERS = ("", "00", "01", "007", "0000007", "00000000", "12345678", "10000000", "99999999", "9" * 5000, "+7", "-7",
              "-0", "+0", "7.", "7.0", "7,0", "7_0", "1e3", "0x7", "seven", "N", "7a", "a7", "\t7", "7\n", "7\t", "\n",
              "none", "None", "True", "'7'", "(7)", "*")


def at(bound):
    desk = Desk()
    desk.say(f"bound {bound}")
    return desk


class Answers(unittest.TestCase):
    def assert_answer(self, desk, words, wanted):
        told = desk.say(words)
        self.assertIs(type(told), str)
        self.assertEqual(told, wanted)

    def test_the_bound_nought_at_first(self):
        desk = Desk()
        self.assertEqual([desk.say(words) for words in OF_THE_BOUND], AT_NOUGHT)
        self.assertEqual([at(0).say(words) for words in OF_THE_BOUND], AT_NOUGHT)

    def test_each_row(self):
        desk = Desk()
        for words, answer in ANSWERS:
            self.assert_answer(desk, words, answer)

    def test_the_bound_may_be_told_again(self):
        desk = Desk()
        for bound in (100, 0, 10, 9999999, 1, 2, 100):
            self.assert_answer(desk, f"bound {bound}", "ok")
            self.assert_answer(desk, "count", {0: "0", 1: "0", 2: "1", 10: "4", 100: "25", 9999999: "664579"}[bound])

    def test_what_is_told_of_small_bounds(self):
        for bound in range(200):
            desk = at(bound)
            primes = [prime for prime in PRIMES if prime <= bound]
            self.assert_answer(desk, "count", str(len(primes)))
            self.assert_answer(desk, "sum", str(sum(primes)))
            self.assert_answer(desk, "squares", str(sum(prime * prime for prime in primes)))
            self.assert_answer(desk, "parts", str(len({bound // number for number in range(1, bound + 1)})))
            for number in (1, 7, 30):
                rests = [prime % number for prime in primes]
                self.assert_answer(desk, f"rests {number}", " ".join(str(rests.count(rest)) for rest in range(number)))
            for many in (0, 1, 3, 200):
                left = [one for one in range(1, bound + 1) if all(one % prime for prime in PRIMES[:many])]
                self.assert_answer(desk, f"rough {many}", str(len(left)))

    def test_the_greatest_bound(self):
        desk = at(9999999)
        primes = by_marks(9999999)
        self.assert_answer(desk, "count", "664579")
        self.assert_answer(desk, "sum", str(sum(primes)))
        self.assert_answer(desk, "squares", str(sum(prime * prime for prime in primes)))
        self.assert_answer(desk, "parts", "6323")
        self.assert_answer(desk, "rests 2", "1 664578")
        self.assert_answer(desk, "rough 1", "5000000")

    def test_places_and_primes(self):
        desk = Desk()
        for place, prime in ((0, 2), (1, 3), (24, 97), (999, 7919), (9999, 104729), (60000, 746777)):
            self.assert_answer(desk, f"at {place}", str(prime))
            self.assert_answer(desk, f"place {prime}", str(place))
        self.assert_answer(desk, "place 9999991", "664578")

    def test_next_and_last(self):
        desk = Desk()
        for number, behind, ahead in ((0, "2", "none"), (1, "2", "none"), (2, "3", "none"), (3, "5", "2"),
                                      (4, "5", "3"), (100, "101", "97"), (9999999, "10000019", "9999991")):
            self.assert_answer(desk, f"next {number}", behind)
            self.assert_answer(desk, f"last {number}", ahead)

    def test_between(self):
        desk = Desk()
        for low, high, many in ((0, 0, 0), (2, 2, 1), (7, 13, 3), (13, 7, 0), (0, 100, 25), (0, 9999999, 664579),
                                (9999999, 0, 0), (9999991, 9999991, 1)):
            self.assert_answer(desk, f"between {low} {high}", str(many))

    def test_only_the_bound_changes_the_bound(self):
        desk = at(100)
        for words, _ in ANSWERS:
            desk.say(words)
            self.assert_answer(desk, "count", "25")
            self.assert_answer(desk, "rough 0", "100")

    def test_what_does_not_ask_for_the_bound(self):
        for bound in (0, 1, 10, 9999999):
            desk = at(bound)
            for words, answer in ANSWERS[7:]:
                self.assert_answer(desk, words, answer)

    def test_two_desks_beside_one_another(self):
        one, other = Desk(), Desk()
        one.say("bound 10")
        self.assert_answer(other, "count", "0")
        other.say("bound 100")
        self.assert_answer(one, "count", "4")
        self.assert_answer(other, "count", "25")
        self.assert_answer(Desk(), "count", "0")


class Refused(unittest.TestCase):
    def assert_refused(self, refusal, words):
        """That words are refused and all is behind that as ahead of it."""
        for desk, many, bound in ((Desk(), "0", "0"), (at(100), "25", "100")):
            assert_refused(self, refusal, desk.say, words)
            self.assertEqual(desk.say("count"), many)
            self.assertEqual(desk.say("rough 0"), bound)

    def test_rests_by_no_such_number(self):
        for number in (0, 31, 32, 60, 100, 9999999):
            self.assert_refused(NoRest, f"rests {number}")

    def test_the_place_of_no_prime(self):
        for number in (0, 1, 4, 6, 9, 91, 7917, 3121 * 3137, 3137 * 3137, 9999990, 9999999):
            self.assert_refused(NoPrime, f"place {number}")

    def test_too_many_first_primes(self):
        for many in (201, 202, 1000, 9999999):
            self.assert_refused(NoCommand, f"rough {many}")
        self.assertEqual(at(1229).say("rough 200"), "2")

    def test_too_great_places(self):
        for place in (60001, 60002, 100000, 9999999):
            self.assert_refused(NoCommand, f"at {place}")
        self.assertEqual(Desk().say("at 60000"), "746777")

    def test_no_numbers(self):
        for word in NO_NUMBERS:
            for first in WITH_ONE:
                self.assert_refused(NoCommand, f"{first} {word}")
            self.assert_refused(NoCommand, f"between {word} 7")
            self.assert_refused(NoCommand, f"between 7 {word}")
            self.assert_refused(NoCommand, f"between {word} {word}")

    def test_words_too_many_or_too_few(self):
        for first in WITH_ONE:
            for words in (first, f"{first} 7 7", f"{first} 7 7 7", f"{first} 7 {first}", f"7 {first}", f"{first} {first} 7"):
                self.assert_refused(NoCommand, words)
        for first in WITH_NONE:
            for words in (f"{first} 7", f"{first} 0", f"{first} 7 7", f"7 {first}", f"{first} {first}"):
                self.assert_refused(NoCommand, words)
        for words in ("between", "between 7", "between 7 7 7", "between 7 7 between", "7 between 7", "7 7 between"):
            self.assert_refused(NoCommand, words)

    def test_a_blank_more_or_less(self):
        for words, _ in ANSWERS:
            for row in range(len(words) + 1):
                self.assert_refused(NoCommand, words[:row] + "  " + words[row:])
                if row == 0 or row == len(words) or words[row - 1:row + 1].strip() != words[row - 1:row + 1]:
                    self.assert_refused(NoCommand, words[:row] + " " + words[row:])
            if " " in words:
                self.assert_refused(NoCommand, words.replace(" ", ""))
                self.assert_refused(NoCommand, words.replace(" ", "\t"))
                self.assert_refused(NoCommand, words.replace(" ", "\n"))
                self.assert_refused(NoCommand, words.replace(" ", ","))

    def test_line_feeds(self):
        for words, _ in ANSWERS:
            for bent in (words + "\n", "\n" + words, words + "\n" + words, words + "\r", words + "\t", words + "\0"):
                self.assert_refused(NoCommand, bent)

    def test_great_letters(self):
        for words, _ in ANSWERS:
            self.assert_refused(NoCommand, words.upper())
            first = words.split(" ")[0]
            for row in range(len(first)):
                self.assert_refused(NoCommand, words[:row] + words[row].upper() + words[row + 1:])

    def test_a_letter_left_out_or_put_in(self):
        for words, _ in ANSWERS:
            first = words.split(" ")[0]
            for row in range(len(first)):
                self.assert_refused(NoCommand, words[:row] + words[row + 1:])
                for sign in "aen1-:":
                    self.assert_refused(NoCommand, words[:row] + sign + words[row:])

    def test_other_words(self):
        for words in ("", " ", "  ", "\n", "0", "7", "7 7", "7 7 7", "none", "ok", "primes", "count sum", "cube 7", "paper 10",
                      "help", "bound=7", "bound:7", "say count", "root 9", "is 7", "*", "x" * 6000, " " * 6000):
            self.assert_refused(NoCommand, words)

    def test_figures_of_other_kinds(self):
        for word in ("\u00b2", "\u0663", "\uff17", "7\u0663"):
            for first in WITH_ONE:
                self.assert_refused(NoCommand, f"{first} {word}")

    def test_what_is_no_text(self):
        for thing in no_numbers():
            if not isinstance(thing, str):
                self.assert_refused(NoCommand, thing)
        for thing in (0, 7, b"count", ["count"], ("count",), ["bound", 7], {"count": 7}):
            self.assert_refused(NoCommand, thing)

    def test_the_refusal_told_first_comes(self):
        for words in ("rests 031", "rests 31 ", "rests 31 31", "rests 00", "rests 99999999", "place 04", "place 4 ",
                      "place 4 4", "place 10000000", "place 99999999"):
            self.assert_refused(NoCommand, words)

    def test_a_bound_that_is_refused_is_not_taken(self):
        desk = at(100)
        for words in ("bound 07", "bound 7 7", "bound  7", "bound 7 ", "bound 10000000", "Bound 7", "bound"):
            assert_refused(self, NoCommand, desk.say, words)
            self.assertEqual(desk.say("count"), "25")

    def test_what_is_handed_in_is_neither_changed_nor_kept(self):
        desk, rows = Desk(), ["bound", [7]]
        assert_refused(self, NoCommand, desk.say, rows)
        self.assertEqual(rows, ["bound", [7]])
        thing = Seven()
        held = weakref.ref(thing)
        assert_refused(self, NoCommand, desk.say, thing)
        del thing
        self.assertIsNone(held())


if __name__ == "__main__":
    unittest.main()
