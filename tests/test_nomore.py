"""[28], [29], [6]: papers that no more could be charged, and plans that are as good as any."""
import itertools
import random
import unittest

from nightstairs.could import could, could_by, could_plan
from nightstairs.nights import sums_of
from nightstairs.nomore import is_as_good, is_nomore, nomore_paper, papers_of, said_by
from nightstairs.stairs import stairs
from tests import brute
from tests.brute import EMPTY, ODD, YARD, car_lots_of, cuts_of, great_yard, lots_of, reach_in, some_night, some_yards, spoiled

SMALL = ((("a", "b", 1), ("feed", "a", 3)), (("bus", "a", 2, 5), ("van", "b", 1, 2)))
NIGHT = (2, 5, 1)
PLAN = ({"bus": 1, "van": 1}, {"bus": 2, "van": 1}, {"bus": 1})


def hours_told(row, night, m):
    """The hours of nomore_paper: the least number that tells COULD(m), those with the most, the first of equal ones."""
    least = could_by(row, night)[m]
    h = min(h for h in range(m + 1) if reach_in(row, h) + sum(sorted(night[:m])[:m - h]) == least)
    return tuple(sorted(sorted(range(m), key=lambda at: (-night[at], at))[:h]))


class Papers(unittest.TestCase):
    def test_all_papers_of_small_yards(self):
        chance = random.Random(1)
        for yard in some_yards(2, 15, cars=2, knots=2, great=3):
            night = some_night(chance, hours=3, most=7)
            for m in range(len(night) + 1):
                told = []
                for hours, lot, cut in itertools.product(lots_of(range(m)), car_lots_of(yard), cuts_of(yard)):
                    self.assertIs(is_nomore(yard, night, m, (hours, lot, cut)), True)
                    told.append(said_by(yard, night, m, (hours, lot, cut)))
                    self.assertEqual(told[-1], brute.nomore_said(yard, night, m, (hours, lot, cut)))
                self.assertEqual(min(told), brute.could(yard, night)[m])

    def test_nomore_paper_says_just_what_could_be(self):
        chance = random.Random(3)
        for yard in some_yards(4, 80, cars=3, knots=3, great=4):
            night, known, row = some_night(chance, hours=5, most=12), brute.limits(yard), stairs(yard)
            for m in range(len(night) + 1):
                paper = nomore_paper(yard, night, m)
                self.assertTrue(brute.is_nomore(yard, night, m, paper), paper)
                self.assertEqual(brute.nomore_said(yard, night, m, paper), could_by(row, night)[m])
                self.assertEqual(brute.least_said(yard, night, m, known), could_by(row, night)[m])
                self.assertEqual(paper[0], hours_told(row, night, m))

    def test_which_hours(self):
        plain = ((), (("bus", "feed", 3, 30),))
        for night, hours in (((5, 5, 5), (0, 1, 2)), ((3, 3, 3), ()), ((4, 2, 4, 4), (0, 2, 3)), ((4, 3, 2), (0,)), ((), ()), ((0, 0), ()), ((9,), (0,)),
                             ((1, 9, 1, 9, 1, 4), (1, 3, 5)), ((3, 4, 3, 9, 3), (1, 3))):
            self.assertEqual(nomore_paper(plain, night, len(night))[0], hours)
        short = ((), (("bus", "feed", 3, 10),))
        for night, hours in (((3,) * 5, (0, 1, 2, 3, 4)), ((4, 0, 4, 4, 0, 4), (0, 2, 3, 5)), ((1, 9, 0, 9, 0, 4), (1, 3, 5)), ((9, 0, 2, 9, 1), (0, 3)),
                             ((1,) * 9, ()), ((3, 2, 3, 2), ()), ((3, 2, 3, 2, 3), (0, 1, 2, 3, 4))):
            self.assertEqual(nomore_paper(short, night, len(night))[0], hours, night)
        self.assertEqual(nomore_paper(short, (4, 4, 9, 1, 9), 3), nomore_paper(short, (4, 4, 9), 3))
        self.assertEqual(nomore_paper(((), (("bus", "feed", 3, 7),)), (3, 3, 3, 3), 4)[0], (0, 1, 2, 3))
        self.assertEqual(nomore_paper(((), (("bus", "feed", 3, 0),)), (3, 3), 2)[0], (0, 1))

    def test_m_is_0_or_the_whole(self):
        for yard, night in ((SMALL, NIGHT), (EMPTY, (3,)), (YARD, ())):
            self.assertEqual(nomore_paper(yard, night, 0)[0], ())
            self.assertEqual(said_by(yard, night, 0, nomore_paper(yard, night, 0)), 0)
            self.assertEqual(said_by(yard, night, len(night), nomore_paper(yard, night, len(night))), could(yard, night)[-1])
            self.assertIs(is_nomore(yard, night, 0, ((), (), ())), True)
            self.assertIs(is_nomore(yard, night, 0, ((0,), (), ())), False)

    def test_said_by(self):
        self.assertEqual([said_by(SMALL, NIGHT, m, ((), ("bus", "van"), ())) for m in range(4)], [0, 2, 7, 8])
        self.assertEqual([said_by(SMALL, NIGHT, 3, (hours, ("bus", "van"), ("a", "b"))) for hours in ((0,), (1,), (2,), (0, 1, 2))], [9, 6, 10, 9])
        self.assertEqual([said_by(SMALL, NIGHT, 2, ((1,), (), ())), said_by(SMALL, NIGHT, 2, ((0, 1), ("bus",), ())),
                          said_by(SMALL, NIGHT, 3, ((0, 1), ("van",), ("b",)))], [9, 6, 8])


class IsNomore(unittest.TestCase):
    def test_any_values(self):
        for yard, night in ((SMALL, NIGHT), (YARD, (9, 9)), (EMPTY, (1,))):
            for m in range(len(night) + 1):
                for paper in (nomore_paper(yard, night, m), ((), (), ())):
                    for thing in [paper, *spoiled(paper), *ODD]:
                        for most in {m, 0, len(night)}:
                            meant = bool(brute.is_nomore(yard, night, most, thing))
                            self.assertIs(is_nomore(yard, night, most, thing), meant, (thing, most))

    def test_one_hour_car_or_knot_more_fewer_out_of_order_twice(self):
        every = ((0, 1, 2), ("bus", "van"), ("a", "b"))
        self.assertIs(is_nomore(SMALL, NIGHT, 3, every), True)
        for at in range(3):
            for part in (every[at][:1], every[at][1:], every[at][:-1], ()):
                self.assertIs(is_nomore(SMALL, NIGHT, 3, every[:at] + (part,) + every[at + 1:]), True)
            for part in (every[at][::-1], every[at] + every[at][-1:], every[at][:1] + every[at], list(every[at]), None, every[at][0],
                         every[at] + ("x",), every[at] + (3,), (-1,) + every[at], every[at] + (None,), every[at] + ("feed",)):
                self.assertIs(is_nomore(SMALL, NIGHT, 3, every[:at] + (part,) + every[at + 1:]), False, part)
        for thing in (every[:2], every + ((),), list(every), ((2,), (), ()), ((0, True), (), ()), ((False,), (), ()), ((0, 2), (), ())):
            self.assertIs(is_nomore(SMALL, NIGHT, 2, thing), False)
        self.assertIs(is_nomore(SMALL, NIGHT, 3, ((2,), (), ())), True)


class AsGood(unittest.TestCase):
    def as_good(self, yard, night, plan, thing):
        if not brute.is_plan(yard, night, plan) or type(thing) is not tuple or len(thing) != len(night) + 1:
            return False
        sums = [sum(sum(amounts.values()) for amounts in plan[:m]) for m in range(len(night) + 1)]
        return all(brute.is_nomore(yard, night, m, paper) and brute.nomore_said(yard, night, m, paper) == sums[m] for m, paper in enumerate(thing))

    def test_papers_of(self):
        chance = random.Random(5)
        for yard in [EMPTY, YARD, *some_yards(6, 20)]:
            night = some_night(chance, hours=6, most=9)
            papers = papers_of(yard, night)
            self.assertEqual(papers, tuple(nomore_paper(yard, night, m) for m in range(len(night) + 1)))
            self.assertEqual(tuple(said_by(yard, night, m, paper) for m, paper in enumerate(papers)), could(yard, night))

    def test_all_plans_of_small_yards(self):
        answers = set()
        for yard in some_yards(7, 25, cars=2, knots=1, great=2):
            for night in ((1, 3), (2, 1)):
                papers = papers_of(yard, night)
                best = brute.could(yard, night)
                for first in brute.orders(yard, night[0]):
                    first = brute.amounts_of(yard, first)
                    left = brute.less(yard, first)
                    for second in brute.orders(left, night[1]):
                        plan = (first, brute.amounts_of(left, second))
                        answer = is_as_good(yard, night, plan, papers)
                        self.assertIs(answer, sums_of(plan) == best)
                        answers.add(answer)
        self.assertEqual(answers, {True, False})

    def test_parts_more_fewer_exchanged(self):
        papers = papers_of(SMALL, NIGHT)
        self.assertIs(is_as_good(SMALL, NIGHT, PLAN, papers), True)
        for thing in (papers[:3], papers[1:], papers + papers[-1:], papers[::-1], list(papers), (), None, papers[:2] + papers[1:3],
                      papers[:1] + papers[2:3] + papers[1:2] + papers[3:]):
            self.assertIs(is_as_good(SMALL, NIGHT, PLAN, thing), False, thing)
        for plan in (PLAN[:2], PLAN[1:], PLAN + ({},), PLAN[::-1], list(PLAN), (), None, ({"bus": 1}, {"bus": 2, "van": 1}, {"bus": 1}),
                     ({"bus": 2}, {"bus": 2, "van": 1}, {"bus": 1, "van": 1}), PLAN[:2] + ({},)):
            self.assertIs(is_as_good(SMALL, NIGHT, plan, papers), False, plan)
        self.assertIs(is_as_good(SMALL, NIGHT, papers, PLAN), False)
        self.assertIs(is_as_good(SMALL, (2, 5, 2), PLAN, papers), False)
        self.assertIs(is_as_good(SMALL, (), (), (((), (), ("a",)),)), False)
        self.assertIs(is_as_good(SMALL, (), (), (((), ("bus", "van"), ("a",)),)), True)
        self.assertIs(is_as_good(EMPTY, (4,), ({},), (((), (), ()), ((0,), (), ()))), True)

    def test_papers_that_say_more_or_less(self):
        papers = papers_of(SMALL, NIGHT)
        for at in range(4):
            for other in (((), (), ()), (tuple(range(at)), ("bus",), ()), (tuple(range(at)), ("bus", "van"), ("a", "b"))):
                thing = papers[:at] + (other,) + papers[at + 1:]
                self.assertIs(is_as_good(SMALL, NIGHT, PLAN, thing), self.as_good(SMALL, NIGHT, PLAN, thing))

    def test_a_plan_that_is_best_at_the_end_alone(self):
        late = ({}, {"bus": 2, "van": 1}, {"bus": 1})
        self.assertIs(is_as_good(SMALL, (1, 5, 1), late, papers_of(SMALL, (1, 5, 1))), False)
        chance = random.Random(8)
        answers = set()
        for yard in some_yards(9, 40, cars=3, knots=2):
            night = some_night(chance, most=6)
            plan = could_plan(yard, night)
            answer = is_as_good(yard, night, plan, papers_of(yard, night))
            self.assertIs(answer, sums_of(plan) == could(yard, night))
            answers.add(answer)
        self.assertIn(True, answers)

    def test_any_values(self):
        papers = papers_of(SMALL, NIGHT)
        for thing in spoiled(papers):
            self.assertIs(is_as_good(SMALL, NIGHT, PLAN, thing), self.as_good(SMALL, NIGHT, PLAN, thing), thing)
        for plan in spoiled(PLAN):
            self.assertIs(is_as_good(SMALL, NIGHT, plan, papers), self.as_good(SMALL, NIGHT, plan, papers), plan)

    def test_nights_of_48_hours(self):
        chance = random.Random(10)
        for seed in range(2):
            yard = great_yard(seed)
            night = tuple(chance.randint(0, 10 ** chance.randint(1, 12) - 1) for _ in range(48))
            papers, best = papers_of(yard, night), could(yard, night)
            for m in (0, 1, 2, 20, 47, 48):
                self.assertIs(is_nomore(yard, night, m, papers[m]), True)
                self.assertEqual(brute.nomore_said(yard, night, m, papers[m]), best[m])
            self.assertEqual(papers[48], nomore_paper(yard, night, 48))
            self.assertEqual([len(papers), said_by(yard, night, 48, papers[48])], [49, best[48]])


if __name__ == "__main__":
    unittest.main()
