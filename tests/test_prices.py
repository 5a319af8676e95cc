"""[36], [37]: hours that are bought, and the least raise that reaches a wish."""
import itertools
import random
import unittest

from nightstairs.could import could
from nightstairs.nomore import is_nomore, said_by
from nightstairs.prices import cheap_paper, cheapest, cost_of, is_cheapest, least_cap, least_supply, raise_paper
from nightstairs.stairs import stairs
from tests import brute
from tests.brute import EMPTY, ODD, YARD, full_yard, great_yard, roomy_yards, some_night, some_yards, spoiled

GREAT = 10 ** 12
SMALL = ((("a", "b", 1), ("feed", "a", 3)), (("bus", "a", 2, 5), ("van", "b", 1, 2)))
SLIM = ((("feed", "a", 2),), (("bus", "a", 2, 5), ("van", "a", 1, 2)))
PRICES, LIMITS = (5, 1, 2), (9, 9, 9)


def up_to(prices, night, most):
    return tuple(supply if price <= most else 0 for price, supply in zip(prices, night))


def cheap_form(yard, prices, limits, wish, night, thing):
    """The definition of a NIGHT that is bought, and of its CHEAP PAPER."""
    if type(night) is not tuple or len(night) != len(limits) or not all(type(supply) is int for supply in night):
        return False
    if not all(0 <= supply <= limit for supply, limit in zip(night, limits)) or sum(night) != wish:
        return False
    if brute.could_at_end(yard, night) != wish:
        return False
    told = sorted(set(prices))
    if type(thing) is not tuple or len(thing) != len(told):
        return False
    for price, paper in zip(told, thing):
        bought = sum(up_to(prices, night, price))
        if paper is None:
            if bought != wish:
                return False
        elif not brute.is_nomore(yard, limits, len(limits), paper):
            return False
        elif brute.nomore_said(yard, up_to(prices, limits, price), len(limits), paper) != bought:
            return False
    return True


def bought_so(yard, prices, limits, wish, known):
    """The NIGHT that is bought, unit by unit as the document says it."""
    if brute.could_at_end(yard, limits, known) < wish:
        return None
    night = [0] * len(prices)
    for _, hour in sorted((price, hour) for hour, price in enumerate(prices)):
        while night[hour] < limits[hour] and sum(night) < wish:
            before = brute.could_at_end(yard, tuple(night), known)
            night[hour] += 1
            if brute.could_at_end(yard, tuple(night), known) == before:
                night[hour] -= 1
                break
    return tuple(night)


class Cheapest(unittest.TestCase):
    def test_all_nights_of_small_yards(self):
        chance = random.Random(1)
        nothing = 0
        for yard in some_yards(2, 35, cars=3, knots=2, great=2) + roomy_yards(3, 5):
            known = brute.limits(yard)
            limits = tuple(chance.randint(0, 4) for _ in range(chance.randint(0, 3)))
            prices = tuple(chance.randint(0, 3) for _ in limits)
            most = brute.could_at_end(yard, limits, known)
            could_be = {night: brute.could_at_end(yard, night, known) for night in itertools.product(*[range(limit + 1) for limit in limits])}
            for wish in {0, most // 2, max(0, most - 1), most, most + 1}:
                night = cheapest(yard, prices, limits, wish)
                self.assertEqual(night, bought_so(yard, prices, limits, wish, known))
                paper = cheap_paper(yard, prices, limits, wish)
                if wish > most:
                    self.assertIsNone(night)
                    self.assertIsNone(paper)
                    nothing += 1
                    continue
                self.assertEqual((sum(night), could_be[night]), (wish, wish))
                # Nobody reaches the wish for less.
                least = min(cost_of(prices, other) for other, told in could_be.items() if told >= wish)
                self.assertEqual(cost_of(prices, night), least)
                self.assertTrue(cheap_form(yard, prices, limits, wish, night, paper))
                self.assertIs(is_cheapest(yard, prices, limits, wish, night, paper), True)
                for other in chance.sample(list(could_be), min(6, len(could_be))):
                    meant = cheap_form(yard, prices, limits, wish, other, paper)
                    self.assertIs(is_cheapest(yard, prices, limits, wish, other, paper), meant)
        self.assertGreater(nothing, 10)

    def test_limits_that_just_suffice_and_one_less(self):
        self.assertEqual([cheapest(SMALL, (5, 1, 2), limits, 7) for limits in ((1, 3, 3), (0, 3, 3), (1, 2, 3), (3, 3, 1), (9, 9, 0))],
                         [(1, 3, 3), None, None, (3, 3, 1), None])
        self.assertEqual([cheap_paper(SMALL, (5, 1, 2), limits, 7) for limits in ((0, 3, 3), (1, 2, 3))], [None, None])
        self.assertEqual([cheapest(SMALL, PRICES, LIMITS, wish) for wish in (0, 1, 3, 4, 6, 7, 8)],
                         [(0, 0, 0), (0, 1, 0), (0, 3, 0), (0, 3, 1), (0, 3, 3), (1, 3, 3), None])

    def test_prices_alike_and_0(self):
        self.assertEqual([cheapest(SMALL, prices, (2, 9, 9), 5) for prices in ((1, 1, 1), (0, 0, 0), (1, 0, 0), (1, 1, 0), (2, 1, 2))],
                         [(2, 3, 0), (2, 3, 0), (0, 3, 2), (2, 0, 3), (2, 3, 0)])
        self.assertEqual([len(cheap_paper(SMALL, prices, (2, 9, 9), 5)) for prices in ((1, 1, 1), (0, 0, 0), (1, 0, 0), (3, 2, 1))], [1, 1, 2, 3])
        self.assertEqual([cost_of((5, 1, 2), (1, 3, 3)), cost_of((), ()), cost_of((0, 0), (7, 7)), cost_of((GREAT, 1), (GREAT, 1))], [14, 0, 0, GREAT * GREAT + 1])

    def test_a_wish_of_0_and_no_hours(self):
        self.assertEqual([cheapest(SMALL, (), (), 0), cheapest(SMALL, (), (), 1), cheap_paper(SMALL, (), (), 0), cheap_paper(SMALL, (), (), 1)], [(), None, (), None])
        self.assertEqual([cheapest(EMPTY, (3, 1), (5, 5), 0), cheapest(EMPTY, (3, 1), (5, 5), 1), cheap_paper(EMPTY, (3, 1), (5, 5), 0)], [(0, 0), None, (None, None)])
        self.assertEqual([is_cheapest(SMALL, (), (), 0, (), ()), is_cheapest(SMALL, (), (), 1, (), ()), is_cheapest(EMPTY, (3,), (5,), 0, (0,), (None,))],
                         [True, False, True])

    def test_papers_none_where_the_wish_is_reached(self):
        for wish, told in ((0, [0, 1, 2]), (3, [0, 1, 2]), (4, [1, 2]), (6, [1, 2]), (7, [2])):
            paper = cheap_paper(SMALL, PRICES, LIMITS, wish)
            self.assertEqual([at for at, part in enumerate(paper) if part is None], told)

    def test_parts_otherwise(self):
        night, paper = cheapest(SMALL, PRICES, LIMITS, 7), cheap_paper(SMALL, PRICES, LIMITS, 7)
        self.assertIs(is_cheapest(SMALL, PRICES, LIMITS, 7, night, paper), True)
        for other in ((3, 3, 1), (2, 3, 2), (1, 3, 2), (1, 3, 4), (1, 3, 3, 0), (1, 3), [1, 3, 3], (), None, (True, 3, 3), paper):
            self.assertIs(is_cheapest(SMALL, PRICES, LIMITS, 7, other, paper), False, other)
        for thing in (paper[:2], paper[1:], paper[::-1], paper + (None,), list(paper), (), None, (None, None, None), (None,) + paper[1:], (paper[1],) + paper[1:],
                      (paper[0], paper[0], None), paper[:2] + (((), (), ()),), paper[:2] + (((0, 1, 2), (), ()),)):
            meant = cheap_form(SMALL, PRICES, LIMITS, 7, night, thing)
            self.assertIs(is_cheapest(SMALL, PRICES, LIMITS, 7, night, thing), meant, thing)
        self.assertIs(is_cheapest(SMALL, PRICES, LIMITS, 7, night, paper[:2] + (((0, 1, 2), (), ()),)), True)
        for thing in spoiled(paper):
            meant = cheap_form(SMALL, PRICES, LIMITS, 7, night, thing)
            self.assertIs(is_cheapest(SMALL, PRICES, LIMITS, 7, night, thing), meant, thing)
        for other in [*ODD, *spoiled(night)]:
            meant = cheap_form(SMALL, PRICES, LIMITS, 7, other, paper)
            self.assertIs(is_cheapest(SMALL, PRICES, LIMITS, 7, other, paper), meant, other)

    def test_above_a_limit_and_what_can_not_be_charged(self):
        paper = cheap_paper(SMALL, (1, 1), (2, 9), 4)
        self.assertEqual([is_cheapest(SMALL, (1, 1), (2, 9), 4, night, paper) for night in ((2, 2), (1, 3), (3, 1), (0, 4), (2, 3))], [True, True, False, False, False])

    def test_more_supplies_than_the_wish(self):
        # All 27 can't be charged: what could be is the wish, but more was bought.
        self.assertIs(is_cheapest(SMALL, (1, 1, 1), LIMITS, 7, LIMITS, (((), ("bus", "van"), ()),)), False)

    def test_papers_go_by_the_prices(self):
        prices = (10 ** 9 + 7, 64, 8, 33)
        for wish in (1, 4, 6, 7):
            night, paper = cheapest(SMALL, prices, (9, 2, 2, 2), wish), cheap_paper(SMALL, prices, (9, 2, 2, 2), wish)
            self.assertTrue(cheap_form(SMALL, prices, (9, 2, 2, 2), wish, night, paper))
            self.assertIs(is_cheapest(SMALL, prices, (9, 2, 2, 2), wish, night, paper), True)
            self.assertIs(is_cheapest(SMALL, prices, (9, 2, 2, 2), wish, night, paper[::-1]), set(paper) == {None})

    def test_great_yards(self):
        chance = random.Random(4)
        for yard in (great_yard(1), full_yard(1)):
            first = stairs(yard)[0][0]
            limits = tuple(chance.randint(0, 2 * first) for _ in range(48))
            prices = tuple(chance.choice([0, 7, chance.randint(0, GREAT)]) for _ in range(48))
            most = could(yard, limits)[-1]
            for wish in (most, most // 2, 1):
                night, paper = cheapest(yard, prices, limits, wish), cheap_paper(yard, prices, limits, wish)
                self.assertEqual((sum(night), could(yard, night)[-1]), (wish, wish))
                self.assertIs(is_cheapest(yard, prices, limits, wish, night, paper), True)
            self.assertIsNone(cheapest(yard, prices, limits, most + 1))


class LeastSupply(unittest.TestCase):
    def test_small_yards(self):
        chance = random.Random(5)
        found = set()
        for yard in some_yards(6, 40, cars=3, knots=2, great=3):
            known = brute.limits(yard)
            night = some_night(chance, hours=4, most=6) + (chance.randint(0, 6),)
            hour = chance.randrange(len(night))
            told = [brute.could_at_end(yard, night[:hour] + (supply,) + night[hour + 1:], known) for supply in range(14)]
            for wish in {0, told[0] - 1, told[0], told[0] + 1, told[-1] - 1, told[-1], told[-1] + 1} - {-1}:
                meant = next((supply for supply, most in enumerate(told) if most >= wish), None)
                self.assertEqual(least_supply(yard, night, hour, wish), meant)
                self.check_paper(yard, night, hour, wish, meant)
                found.add(meant)
        self.assertLessEqual({None, 0, 1, 2, 3}, found)

    def check_paper(self, yard, night, hour, wish, number):
        if number:
            other = night[:hour] + (number - 1,) + night[hour + 1:]
            paper = raise_paper(yard, night, hour, wish, number)
            self.assertTrue(brute.is_nomore(yard, night, len(night), paper))
            self.assertLess(brute.nomore_said(yard, other, len(night), paper), wish)

    def test_edges(self):
        self.assertEqual([least_supply(SMALL, (2, 5, 1), 0, wish) for wish in (0, 4, 5, 6, 7, 8)], [0, 0, 1, 2, 3, None])
        self.assertEqual([least_supply(SMALL, (2, 5, 1), 1, wish) for wish in (0, 3, 4, 6, 7)], [0, 0, 1, 3, None])
        self.assertEqual([least_supply(EMPTY, (3,), 0, 0), least_supply(EMPTY, (3,), 0, 1), least_supply(YARD, (0, 0), 1, 5), least_supply(YARD, (0, 0), 1, 6)],
                         [0, None, 5, None])

    def test_one_less_is_not_enough_in_great_yards(self):
        chance = random.Random(7)
        for yard in (great_yard(2), full_yard(2)):
            first = stairs(yard)[0][0]
            night = tuple(chance.randint(0, first) for _ in range(48))
            for wish in (could(yard, night)[-1], could(yard, night)[-1] - first // 3, could(yard, night)[-1] + 1):
                number = least_supply(yard, night, 5, wish)
                if number is not None:
                    self.assertGreaterEqual(could(yard, night[:5] + (number,) + night[6:])[-1], wish)
                    if number:
                        self.assertLess(could(yard, night[:5] + (number - 1,) + night[6:])[-1], wish)
                        self.check_paper(yard, night, 5, wish, number)


def with_cap(yard, ends, cap):
    return tuple(cable if cable[:2] != ends else ends + (cap,) for cable in yard[0]), yard[1]


class LeastCap(unittest.TestCase):
    def check_paper(self, yard, night, ends, wish, number):
        if number:
            other = with_cap(yard, ends, number - 1)
            paper = raise_paper(yard, night, ends, wish, number)
            self.assertTrue(brute.is_nomore(yard, night, len(night), paper))
            self.assertLess(brute.nomore_said(other, night, len(night), paper), wish)

    def test_small_yards(self):
        chance = random.Random(8)
        found = set()
        for yard in some_yards(9, 60, cars=3, knots=3, great=3) + roomy_yards(10, 8):
            if yard[0]:
                ends = chance.choice(yard[0])[:2]
                night = some_night(chance, hours=4, most=9) + (chance.randint(3, 9),)
                told = [brute.could_at_end(with_cap(yard, ends, cap), night) for cap in range(12)]
                for wish in {0, told[0], told[0] + 1, told[0] + 2, told[-1] - 1, told[-1], told[-1] + 1} - {-1}:
                    meant = next((cap for cap, most in enumerate(told) if most >= wish), None)
                    self.assertEqual(least_cap(yard, night, ends, wish), meant)
                    self.check_paper(yard, night, ends, wish, meant)
                    found.add(meant)
        self.assertLessEqual({None, 0, 1, 2, 3, 4}, found)

    def test_edges(self):
        self.assertEqual([least_cap(SLIM, (3, 3), ("feed", "a"), wish) for wish in (0, 1, 2, 3, 4, 5, 6, 7)], [0, 1, 1, 2, 2, 3, 3, None])
        self.assertEqual([least_cap(SLIM, (), ("feed", "a"), wish) for wish in (0, 1)], [0, None])
        self.assertEqual([least_cap(SMALL, (9,) * 4, ("a", "b"), wish) for wish in (5, 6, 7, 8)], [0, 1, 1, None])
        # At a cap of 2 a paper of three hours says least, at 3 one of one hour: by the first one alone 3 would be enough.
        bend = ((("feed", "k", 1),), (("bus", "k", 99, 99), ("van", "feed", 2, 5)))
        self.assertEqual([could(with_cap(bend, ("feed", "k"), cap), (99, 4, 4))[-1] for cap in (1, 2, 3, 4)], [8, 11, 13, 14])
        self.assertEqual([least_cap(bend, (99, 4, 4), ("feed", "k"), wish) for wish in (8, 9, 11, 12, 13, 14, 15)], [1, 2, 2, 3, 3, 4, 5])
        for wish, number in ((9, 2), (12, 3), (14, 4)):
            self.check_paper(bend, (99, 4, 4), ("feed", "k"), wish, number)
        rest = ((("feed", "a", 2), ("feed", "b", 5)), (("bus", "b", 2, 5),))
        self.assertEqual([least_cap(rest, (9, 9), ("feed", "a"), 4), least_cap(rest, (9, 9), ("feed", "a"), 5)], [0, None])

    def test_great_yards(self):
        chance = random.Random(11)
        found = 0
        for yard in (great_yard(2), full_yard(0)):
            first = stairs(yard)[0][0]
            night = tuple(chance.randint(first // 2, first) for _ in range(48))
            most = could(yard, night)[-1]
            for ends in [cable[:2] for cable in yard[0][::9]] + [cable[:2] for cable in yard[0] if cable[0] == "feed"][:3]:
                number = least_cap(yard, night, ends, most)
                self.assertGreaterEqual(could(with_cap(yard, ends, number), night)[-1], most)
                if number:
                    self.assertLess(could(with_cap(yard, ends, number - 1), night)[-1], most)
                    self.check_paper(yard, night, ends, most, number)
                    found += 1
        self.assertGreater(found, 1)


class RaisePaper(unittest.TestCase):
    def test_both_sorts_of_place(self):
        paper = raise_paper(SMALL, (2, 5, 1), 0, 7, 3)
        self.assertIs(is_nomore(SMALL, (2, 5, 1), 3, paper), True)
        self.assertLess(said_by(SMALL, (2, 5, 1), 3, paper), 7)
        paper = raise_paper(SLIM, (3, 3), ("feed", "a"), 5, 3)
        self.assertEqual(paper[0], (0, 1))
        self.assertLess(said_by(SLIM, (3, 3), 2, paper), 5)
        wide = with_cap(SLIM, ("feed", "a"), 9)
        self.assertLess(said_by(SLIM, (3, 3), 2, raise_paper(wide, (3, 3), ("feed", "a"), 5, 3)), 5)
        self.assertLess(said_by(SMALL, (2, 5, 1), 3, raise_paper(SMALL, (9, 5, 1), 0, 7, 3)), 7)


if __name__ == "__main__":
    unittest.main()
