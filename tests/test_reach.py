"""[20], [5]: reach, its papers, and what shows it."""
import unittest

from nightstairs.forms import is_amounts, is_car_lot, is_cut, is_flow
from nightstairs.reach import is_reach_paper, is_reach_shown, reach, reach_paper, reach_shown, said_by
from nightstairs.yards import fits
from tests import brute
from tests.brute import EMPTY, ODD, YARD, car_lots_of, cuts_of, great_yard, some_yards, spoiled

MANY_HOURS = 10 ** 15 - 1
PAPERS = ((("bus", "van"), ("a", "b")), (("van",), ()), ((), ()))


def paper_form(yard, thing):
    return type(thing) is tuple and len(thing) == 2 and is_car_lot(yard, thing[0]) and is_cut(yard, thing[1])


def said(yard, h, paper):
    return brute.needs_out(yard, paper[0]) + h * brute.worth(yard, paper[1], paper[0])


def shown_form(yard, h, thing):
    if type(thing) is not tuple or len(thing) != 3:
        return False
    amounts, flow, paper = thing
    if not is_amounts(yard, amounts) or not is_flow(yard, flow) or not paper_form(yard, paper):
        return False
    return (fits(yard, amounts) and brute.carries(yard, h, amounts, flow)
            and sum(amounts.values()) == said(yard, h, paper))


class Reach(unittest.TestCase):
    def test_against_all_lots_and_cuts(self):
        for yard in some_yards(1, 60):
            known = brute.limits(yard)
            total = sum(car[3] for car in yard[1])
            for h in [*range(8), total, MANY_HOURS]:
                least = brute.reach(yard, h, known)
                self.assertEqual(reach(yard, h), least)
                paper = reach_paper(yard, h)
                self.assertTrue(paper_form(yard, paper))
                self.assertEqual(said(yard, h, paper), least)

    def test_it_is_the_least_that_a_paper_says(self):
        for yard in some_yards(2, 25, cars=3, knots=2):
            papers = [(lot, cut) for lot in car_lots_of(yard) for cut in cuts_of(yard)]
            for paper in papers:
                self.assertIs(is_reach_paper(yard, paper), True)
            for h in (0, 1, 2, 3, 7, MANY_HOURS):
                told = [said_by(yard, h, paper) for paper in papers]
                self.assertEqual(told, [said(yard, h, paper) for paper in papers])
                self.assertEqual(min(told), reach(yard, h))

    def test_hours(self):
        self.assertEqual([reach(YARD, h) for h in (0, 1, 2, 3, MANY_HOURS)], [0, 5, 10, 11, 11])
        self.assertEqual([reach(EMPTY, h) for h in (0, 1, MANY_HOURS)], [0, 0, 0])
        slow = ((("feed", "k", 1),), (("bus", "k", 1, 10 ** 15),))
        self.assertEqual([reach(slow, h) for h in (0, 1, MANY_HOURS, 10 ** 15, 10 ** 15 + 1)], [0, 1, MANY_HOURS, 10 ** 15, 10 ** 15])
        apart = ((), (("bus", "k", 1, 5), ("van", "feed", 2, 5)))
        self.assertEqual([reach(apart, h) for h in (0, 1, 2, 3, 4)], [0, 2, 4, 5, 5])

    def test_papers_for_no_hours(self):
        for yard in [YARD, EMPTY, *some_yards(3, 20)]:
            self.assertEqual(said_by(yard, 0, reach_paper(yard, 0)), 0)
            self.assertEqual(reach_shown(yard, 0)[:2], ({}, {}))

    def test_steps_fall(self):
        for yard in some_yards(4, 40):
            told = [reach(yard, h) for h in range(12)]
            steps = [behind - ahead for ahead, behind in zip(told, told[1:])]
            self.assertEqual(steps, sorted(steps, reverse=True))
            self.assertGreaterEqual(min(steps), 0)

    def test_least_lots_lie_within(self):
        for yard in some_yards(5, 40):
            known, lots = brute.limits(yard), []
            for h in range(8):
                least = brute.reach(yard, h, known)
                lots.append([lot for lot, limit in known.items() if brute.needs_out(yard, lot) + h * limit == least])
            for ahead, behind in zip(lots, lots[1:]):
                self.assertTrue(all(any(set(part) <= set(lot) for part in behind) for lot in ahead))

    def test_great_yards(self):
        for seed in range(5):
            yard = great_yard(seed)
            for h in (0, 1, 2, 1000, 10 ** 6, MANY_HOURS):
                shown = reach_shown(yard, h)
                self.assertTrue(shown_form(yard, h, shown))
                self.assertEqual(sum(shown[0].values()), reach(yard, h))


class ReachPapers(unittest.TestCase):
    def test_is_reach_paper(self):
        for paper in PAPERS:
            for thing in [paper, *spoiled(paper)]:
                self.assertIs(is_reach_paper(YARD, thing), paper_form(YARD, thing), thing)
        for thing in [*ODD[:12], (("van", "bus"), ()), ((), ("feed",)), ((), ("b", "a")), [(), ()], ([], ()), ((), []), ((), (), ()),
                      (("cart",), ()), (("bus", "bus"), ()), ((), ("a", "a")), ((), ("bus",)), (("a",), ())]:
            self.assertIs(is_reach_paper(YARD, thing), False)
        self.assertIs(is_reach_paper(EMPTY, ((), ())), True)

    def test_said_by(self):
        self.assertEqual([[said_by(YARD, h, paper) for h in (0, 1, 2, 3)] for paper in PAPERS],
                         [[0, 5, 10, 15], [6, 8, 10, 12], [11, 11, 11, 11]])
        self.assertEqual(said_by(YARD, MANY_HOURS, PAPERS[0]), 5 * MANY_HOURS)


class ReachShown(unittest.TestCase):
    def test_reach_shown(self):
        for yard in some_yards(6, 40):
            known = brute.limits(yard)
            for h in (0, 1, 2, 5, MANY_HOURS):
                shown = reach_shown(yard, h)
                self.assertTrue(shown_form(yard, h, shown))
                self.assertEqual(sum(shown[0].values()), brute.reach(yard, h, known))
                self.assertEqual((list(shown[0]), list(shown[1])), (sorted(shown[0]), sorted(shown[1])))
                self.assertIs(is_reach_shown(yard, h, shown), True)

    def test_one_part_otherwise(self):
        for yard, hours in ((YARD, (0, 1, 2, 3)), (EMPTY, (0, 2)), (((), (("bus", "feed", 1, 1),)), (0, 1, 2))):
            for h in hours:
                shown = reach_shown(yard, h)
                for thing in [shown, *spoiled(shown)]:
                    for other in {h, h + 1, 0}:
                        self.assertIs(is_reach_shown(yard, other, thing), shown_form(yard, other, thing), thing)

    def test_what_shows_less_or_does_not_fit(self):
        bus, flow = {"bus": 6, "van": 4}, {("feed", "a"): 10, ("a", "b"): 4}
        self.assertIs(is_reach_shown(YARD, 2, (bus, flow, PAPERS[0])), True)
        self.assertIs(is_reach_shown(YARD, 2, (bus, flow, PAPERS[1])), True)
        for thing in ((bus, flow, PAPERS[2]), ({"bus": 6}, {("feed", "a"): 6}, PAPERS[0]), ({}, {}, PAPERS[0]),
                      ({"bus": 7, "van": 3}, {("feed", "a"): 10, ("a", "b"): 3}, PAPERS[0]),
                      (bus, {("feed", "a"): 10, ("a", "b"): 3}, PAPERS[0]), (bus, {}, PAPERS[0]), (flow, bus, PAPERS[0]),
                      (bus, flow), (bus, flow, PAPERS[0], 0), [bus, flow, PAPERS[0]], (bus, flow, None), None):
            self.assertIs(is_reach_shown(YARD, 2, thing), False)
        turned = (dict(reversed(bus.items())), dict(reversed(flow.items())), PAPERS[0])
        self.assertIs(is_reach_shown(YARD, 2, turned), True)
        self.assertEqual((list(turned[0]), list(turned[1])), (["van", "bus"], [("a", "b"), ("feed", "a")]))

    def test_what_is_returned_is_new(self):
        shown = reach_shown(YARD, 2)
        shown[0].clear()
        shown[1].clear()
        self.assertIs(is_reach_shown(YARD, 2, reach_shown(YARD, 2)), True)


if __name__ == "__main__":
    unittest.main()
