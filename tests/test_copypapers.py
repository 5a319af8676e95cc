"""[19]: papers of copies."""
import itertools
import random
import unittest

from nightstairs.copypapers import bound_of, copies_paper, is_copies_paper
from nightstairs.flows import most_sum
from nightstairs.forms import is_car_lot, is_cut
from tests import brute
from tests.brute import EMPTY, ODD, YARD, car_lots_of, cuts_of, great_yard, some_copies, some_yards, spoiled


def paper_form(yard, copies, thing):
    if type(thing) is not tuple or len(thing) != 2 or not is_car_lot(yard, thing[0]):
        return False
    if type(thing[1]) is not tuple or len(thing[1]) != len(copies):
        return False
    return all(is_cut(yard, cut) or (cut is None and most is not None) for (_, most), cut in zip(copies, thing[1]))


def said(yard, copies, paper):
    lot, cuts = paper
    total = brute.needs_out(yard, lot)
    for (times, most), cut in zip(copies, cuts):
        total += most if cut is None else times * brute.worth(yard, cut, lot)
    return total


class CopiesPapers(unittest.TestCase):
    def test_all_papers_of_small_yards(self):
        chance = random.Random(1)
        for yard in some_yards(2, 25, cars=3, knots=2):
            copies = some_copies(chance, many=2)
            most = most_sum(yard, copies)
            least = None
            choices = [list(cuts_of(yard)) + ([None] if copy[1] is not None else []) for copy in copies]
            for lot in car_lots_of(yard):
                for cuts in itertools.product(*choices):
                    paper = (lot, cuts)
                    told = said(yard, copies, paper)
                    self.assertEqual(bound_of(yard, copies, paper), told)
                    self.assertGreaterEqual(told, most)
                    least = told if least is None else min(least, told)
                    answers = [is_copies_paper(yard, copies, told + more, paper) for more in (-1, 0, 1)]
                    self.assertEqual(answers, [False, True, True])
            self.assertEqual(least, most)

    def test_copies_paper_says_just_most_sum(self):
        chance = random.Random(3)
        for yard in some_yards(4, 150):
            copies = some_copies(chance)
            paper, most = copies_paper(yard, copies), brute.most_sum(yard, copies)
            self.assertTrue(paper_form(yard, copies, paper))
            self.assertEqual(said(yard, copies, paper), most)
            self.assertEqual([is_copies_paper(yard, copies, most + more, paper) for more in (-1, 0, 1)], [False, True, True])

    def test_papers_with_a_part_otherwise(self):
        for yard, copies in ((YARD, ((1, 3), (1, None))), (YARD, ((3, None), (1, 1))), (YARD, ()), (EMPTY, ((1, None), (0, 0)))):
            paper = copies_paper(yard, copies)
            most = most_sum(yard, copies)
            for thing in [paper, *spoiled(paper)]:
                for bound in (-1, most - 1, most, most + 1, 10 ** 6):
                    meant = paper_form(yard, copies, thing) and said(yard, copies, thing) <= bound
                    self.assertIs(is_copies_paper(yard, copies, bound, thing), meant, thing)

    def test_none_only_where_there_is_a_bound(self):
        copies = ((1, 3), (1, None))
        every = ("bus", "van")
        self.assertIs(is_copies_paper(YARD, copies, 8, (every, (None, ("a", "b")))), True)
        self.assertIs(is_copies_paper(YARD, copies, 10 ** 9, (every, (None, None))), False)
        self.assertIs(is_copies_paper(YARD, copies, 10 ** 9, (every, (("a", "b"), None))), False)
        self.assertIs(is_copies_paper(YARD, ((1, 0),), 0, (every, (None,))), True)
        self.assertIs(is_copies_paper(YARD, ((1, 0),), -1, (every, (None,))), False)
        for cut in ((), ("a",)):
            self.assertIs(is_copies_paper(YARD, ((0, None),), 0, (every, (cut,))), True)

    def test_other_values(self):
        for thing in [*ODD, ("bus", "van"), (("bus",), ()), (("bus",), ((),)), (("van", "bus"), (None, ())), [(), (None, ())],
                      (("bus", "van"), [None, ()]), (["bus", "van"], (None, ())), ((), (None, ("feed",))), ((), (None, ("b", "a"))),
                      ((), (None, (), ())), (("cart",), (None, ())), ((), (0, ())), ((), (False, ()))]:
            self.assertIs(is_copies_paper(YARD, ((1, 3), (1, None)), 10 ** 9, thing), False)
        self.assertIs(is_copies_paper(YARD, ((1, 3), (1, None)), 14, ((), (None, ()))), True)

    def test_no_copies(self):
        self.assertEqual(bound_of(YARD, (), ((), ())), 11)
        self.assertEqual(bound_of(YARD, (), (("bus", "van"), ())), 0)
        self.assertEqual(bound_of(YARD, (), copies_paper(YARD, ())), 0)
        self.assertEqual(copies_paper(EMPTY, ()), ((), ()))

    def test_great_yards(self):
        for seed in range(5):
            yard, chance = great_yard(seed), random.Random(seed)
            for copies in (tuple((1, chance.choice([None, chance.randint(0, 10 ** 12)])) for _ in range(20)),
                           ((10 ** 15 - 1, None), (3, 10 ** 13)), ((0, None), (7, 0), (2, None))):
                paper = copies_paper(yard, copies)
                self.assertTrue(paper_form(yard, copies, paper))
                self.assertEqual(said(yard, copies, paper), most_sum(yard, copies))


if __name__ == "__main__":
    unittest.main()
