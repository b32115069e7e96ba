"""Promises 22 to 24: papers and the small checker of them."""

import copy
import unittest
import weakref

from tests.helper import Brittle, Seven, Whole, by_hand, deep, no_numbers, ring
from untoldprimes.papers import paper_of, shows

GREATEST = 3000
BENT = (4, 5, 8, 9, 10, 24, 25, 30)


def by_striking(bound):
    """The paper of a bound, by striking multiples number by number and counting what is left."""
    parts = sorted({bound // number for number in range(1, bound + 1)}, reverse=True)
    left = list(range(2, bound + 1))
    paper = [[(part, sum(one <= part for one in left)) for part in parts]]
    for prime in by_hand(bound):
        if prime * prime <= bound:
            left = [one for one in left if one == prime or one % prime]
            paper.append([(part, sum(one <= part for one in left)) for part in parts])
    return paper


def others_of(number):
    """Things that do not stand for a number in a paper."""
    return [number + 1, number - 1, -number - 1, str(number), None, [number], (number,), {}, b"1", number == 1,
            bool(number), Seven(), Brittle(), 10 ** 5000]


def steps_from(first, bound):
    """The tables that right steps make of any first one."""
    paper, left = [first], dict(first)
    for prime in by_hand(int(bound ** 0.5)):
        ahead = dict(left)
        for part in left:
            if part >= prime * prime:
                left[part] -= ahead[part // prime] - ahead[prime - 1]
        paper.append(list(left.items()))
    return paper


class PaperOf(unittest.TestCase):
    def test_some_by_sight(self):
        self.assertEqual(paper_of(4), [[(4, 3), (2, 1), (1, 0)], [(4, 2), (2, 1), (1, 0)]])
        self.assertEqual(paper_of(5), [[(5, 4), (2, 1), (1, 0)], [(5, 3), (2, 1), (1, 0)]])
        self.assertEqual(paper_of(10), [[(10, 9), (5, 4), (3, 2), (2, 1), (1, 0)],
                                        [(10, 5), (5, 3), (3, 2), (2, 1), (1, 0)],
                                        [(10, 4), (5, 3), (3, 2), (2, 1), (1, 0)]])

    def test_each_bound_to_some_hundreds(self):
        for bound in range(4, 401):
            self.assertEqual(paper_of(bound), by_striking(bound))

    def test_about_squares(self):
        for number in (23, 29, 31, 36, 37, 43, 47, 50, 53):
            for bound in range(number * number - 1, number * number + 2):
                self.assertEqual(paper_of(bound), by_striking(bound))

    def test_to_the_greatest_bound(self):
        for bound in (1000, 2047, 2048, GREATEST - 1, GREATEST):
            self.assertEqual(paper_of(bound), by_striking(bound))

    def test_how_many_tables(self):
        told = [len(paper_of(bound)) for bound in (4, 8, 9, 24, 25, 48, 49, 120, 121, GREATEST)]
        self.assertEqual(told, [2, 2, 3, 3, 4, 4, 5, 5, 6, 17])

    def test_the_kinds_of_what_is_told(self):
        for bound in (4, 9, 100, GREATEST):
            paper = paper_of(bound)
            self.assertIs(type(paper), list)
            self.assertEqual({type(table) for table in paper}, {list})
            self.assertEqual({type(pair) for table in paper for pair in table}, {tuple})
            self.assertEqual({len(pair) for table in paper for pair in table}, {2})
            self.assertEqual({type(number) for table in paper for pair in table for number in pair}, {int})

    def test_told_lists_are_the_askers_own(self):
        for bound in (4, 10, 100):
            wanted = by_striking(bound)
            told = paper_of(bound)
            self.assertEqual(len({id(table) for table in told}), len(told))
            told[0][0] = (bound, 0)
            told[1].clear()
            told.append("more")
            self.assertEqual(paper_of(bound), wanted)
            self.assertEqual(shows(bound, paper_of(bound)), len(by_hand(bound)))

    def test_somewhat_beyond(self):
        self.assertEqual(paper_of(3001), by_striking(3001))
        self.assertEqual(shows(3001, paper_of(3001)), 431)
        for bound in (0, 1, 2, 3):
            self.assertIs(type(paper_of(bound)), list)


class ToldPapers(unittest.TestCase):
    def test_the_told_paper_is_one(self):
        primes = by_hand(GREATEST)
        for bound in (*range(4, 401), *range(401, GREATEST, 37), GREATEST - 1, GREATEST):
            self.assertEqual(shows(bound, paper_of(bound)), sum(prime <= bound for prime in primes))

    def test_a_struck_paper_is_one(self):
        for bound in (4, 5, 8, 9, 10, 100, 840, 841, GREATEST):
            self.assertEqual(shows(bound, by_striking(bound)), len(by_hand(bound)))

    def test_ints_that_are_no_truths(self):
        paper = [[(Whole(part), Whole(left)) for part, left in table] for table in paper_of(10)]
        self.assertEqual(shows(10, paper), 4)
        self.assertEqual(shows(Whole(10), paper_of(10)), 4)

    def test_the_kind_of_what_is_told(self):
        paper = [[(Whole(part), Whole(left)) for part, left in table] for table in paper_of(10)]
        for told in (shows(4, paper_of(4)), shows(GREATEST, paper_of(GREATEST)), shows(10, paper)):
            self.assertIs(type(told), int)


class BentPapers(unittest.TestCase):
    def assert_none(self, bound, thing):
        self.assertIs(shows(bound, thing), None)

    def test_one_number_otherwise(self):
        for bound in BENT:
            for at, table in enumerate(paper_of(bound)):
                for row in range(len(table)):
                    for side in (0, 1):
                        self.assert_each_other_number(bound, at, row, side)

    def assert_each_other_number(self, bound, at, row, side):
        for other in others_of(paper_of(bound)[at][row][side]):
            paper = paper_of(bound)
            pair = list(paper[at][row])
            pair[side] = other
            paper[at][row] = tuple(pair)
            self.assert_none(bound, paper)

    def test_one_number_of_the_greatest_bound_otherwise(self):
        paper = paper_of(GREATEST)
        for at, table in enumerate(paper):
            for row in range(0, len(table), 5):
                part, left = table[row]
                for pair in ((part, left + 1), (part, left - 1), (part + 1, left), (part - 1, left)):
                    table[row] = pair
                    self.assert_none(GREATEST, paper)
                table[row] = part, left
        self.assertEqual(shows(GREATEST, paper), 430)

    def test_truths_as_good_as_their_numbers(self):
        for bound in BENT:
            for at in range(len(paper_of(bound))):
                for row, pair in ((-1, (1, False)), (-1, (True, 0)), (-1, (True, False)), (-2, (2, True))):
                    paper = paper_of(bound)
                    if paper[at][row] == pair:
                        paper[at][row] = pair
                        self.assert_none(bound, paper)

    def test_a_pair_out_twice_or_exchanged(self):
        for bound in BENT:
            for at, table in enumerate(paper_of(bound)):
                for row, pair in enumerate(table):
                    for rows in (table[:row] + table[row + 1:], table[:row] + [pair] + table[row:],
                                 table[:row] + [pair[::-1]] + table[row + 1:],
                                 table[:row] + table[row:row + 2][::-1] + table[row + 2:]):
                        if rows != table:
                            paper = paper_of(bound)
                            paper[at] = rows
                            self.assert_none(bound, paper)

    def test_a_row_that_is_no_pair(self):
        for bound in (4, 10, 25):
            for at, table in enumerate(paper_of(bound)):
                for row, (part, left) in enumerate(table):
                    for other in ([part, left], (part,), (part, left, 0), (part, left, left), (), (part, left, None),
                                  f"{part}:{left}", part, None, {part: left}, ((part, left),), Brittle(),
                                  deep(tuple, 5000), deep(list, 5000)):
                        paper = paper_of(bound)
                        paper[at][row] = other
                        self.assert_none(bound, paper)

    def test_a_table_out_twice_or_exchanged(self):
        for bound in (*BENT, 100, GREATEST):
            paper = paper_of(bound)
            for at, table in enumerate(paper):
                self.assert_none(bound, paper[:at] + paper[at + 1:])
                self.assert_none(bound, paper[:at] + [table] + paper[at:])
                if at:
                    self.assert_none(bound, paper[:at - 1] + [table, paper[at - 1]] + paper[at + 1:])
                    self.assert_none(bound, paper[:at] + [paper[at - 1]] + paper[at + 1:])

    def test_a_table_too_many_or_too_few(self):
        for bound in (4, 8, 9, 24, 25, 100):
            paper = paper_of(bound)
            for more in ([[]], paper[-1:], [paper_of(121)[-1]], [None]):
                self.assert_none(bound, paper + more)
                self.assert_none(bound, more + paper)
            for many in range(len(paper)):
                self.assert_none(bound, paper[:many])
                self.assert_none(bound, paper[many + 1:])

    def test_a_table_that_is_none(self):
        for bound in (4, 10, 25):
            for at, table in enumerate(paper_of(bound)):
                for other in (tuple(table), dict(table), set(table), None, "10:9", [], [table], 7, True, ring(),
                              Brittle(), Seven(), deep(list, 5000), deep(tuple, 5000), iter(table)):
                    paper = paper_of(bound)
                    paper[at] = other
                    self.assert_none(bound, paper)

    def test_tables_in_a_tuple_and_pairs_in_lists(self):
        for bound in (4, 10, 100):
            paper = paper_of(bound)
            self.assert_none(bound, tuple(paper))
            self.assert_none(bound, [tuple(table) for table in paper])
            self.assert_none(bound, tuple(tuple(table) for table in paper))
            self.assert_none(bound, [[list(pair) for pair in table] for table in paper])
            self.assert_none(bound, dict(enumerate(paper)))
            self.assert_none(bound, [paper])
            self.assert_none(bound, paper[0])
            self.assert_none(bound, iter(paper))

    def test_papers_of_other_bounds(self):
        papers = {bound: paper_of(bound) for bound in range(4, 60)}
        for bound in papers:
            for other in papers:
                if other != bound:
                    self.assert_none(bound, papers[other])
        self.assert_none(GREATEST, paper_of(GREATEST - 1))
        self.assert_none(GREATEST - 1, paper_of(GREATEST))

    def test_another_first_table_with_right_steps(self):
        for bound in (*BENT, 100):
            first = paper_of(bound)[0]
            self.assertEqual(steps_from(first, bound), paper_of(bound))
            for row, (part, left) in enumerate(first):
                for gain in (1, -1, 5):
                    other = first[:row] + [(part, left + gain)] + first[row + 1:]
                    self.assert_none(bound, steps_from(other, bound))
            self.assert_none(bound, steps_from([(part, left + 1) for part, left in first], bound))
            self.assert_none(bound, steps_from([(part, 2 * left) for part, left in first], bound))
            self.assert_none(bound, steps_from([(part, 0) for part, left in first], bound))

    def test_a_wrong_table_with_a_right_step_behind(self):
        for bound in (25, 30, 100):
            for at in range(1, len(paper_of(bound))):
                paper = paper_of(bound)
                for later in range(at, len(paper)):
                    paper[later][0] = bound, paper[later][0][1] + 1
                self.assert_none(bound, paper)


class OtherThings(unittest.TestCase):
    def test_things_that_are_none(self):
        for bound in (4, 10, GREATEST):
            for thing in no_numbers() + [0, 4, 10, 10 ** 5000, [[]], [[], []], [()], [[()]], [[[]]], ring(), [ring()]]:
                self.assertIs(shows(bound, thing), None)

    def test_deep_things_in_a_paper(self):
        for bound in (4, 10):
            for kind in (list, tuple):
                for many in (10, 1000, 100000):
                    thing = deep(kind, many)
                    paper = paper_of(bound)
                    self.assertIs(shows(bound, [thing] * len(paper)), None)
                    self.assertIs(shows(bound, [[thing] * len(table) for table in paper]), None)
                    self.assertIs(shows(bound, [[(part, thing) for part, left in table] for table in paper]), None)
                    self.assertIs(shows(bound, [[(thing, left) for part, left in table] for table in paper]), None)

    def test_bounds_below_four_have_no_paper(self):
        for bound in (0, 1, 2, 3):
            for thing in ([], [[]], paper_of(bound), paper_of(4), by_striking(bound) if bound else [], None):
                self.assertIs(shows(bound, thing), None)

    def test_bounds_that_are_none(self):
        for bound in no_numbers() + [-1, -4, -10 ** 24]:
            for thing in (paper_of(4), [], None, bound):
                self.assertIs(shows(bound, thing), None)

    def test_great_bounds_of_which_no_paper_is_at_hand(self):
        for bound in (10 ** 6, 10 ** 7, 10 ** 24, 10 ** 100):
            for thing in (paper_of(4), paper_of(GREATEST), [], [[]], None):
                self.assertIs(shows(bound, thing), None)

    def test_what_is_handed_in_is_neither_changed_nor_kept(self):
        for bound in (4, 10, 100):
            right, bent = paper_of(bound), paper_of(bound)
            bent[-1][0] = (bound, [0])
            for paper in (right, bent):
                wanted, held = copy.deepcopy(paper), [id(table) for table in paper]
                shows(bound, paper)
                self.assertEqual(paper, wanted)
                self.assertEqual([id(table) for table in paper], held)
        thing = Seven()
        held = weakref.ref(thing)
        shows(4, [[thing, thing, thing], [(4, thing), (2, 1), (1, 0)]])
        del thing
        self.assertIsNone(held())

    def test_what_becomes_of_a_paper_changes_nothing(self):
        paper = paper_of(10)
        self.assertEqual(shows(10, paper), 4)
        paper[0].clear()
        self.assertIs(shows(10, paper), None)
        self.assertEqual(shows(10, paper_of(10)), 4)


if __name__ == "__main__":
    unittest.main()
