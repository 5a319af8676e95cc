"""[30], [7], [8]: what is due behind an order, and which orders keep it."""
import random
import unittest

from nightstairs.keeping import after_plenty, due, is_right, keeps, short_hours
from nightstairs.orders import order_for
from nightstairs.reach import reach
from nightstairs.rows import taken
from nightstairs.stairs import stairs
from tests import brute
from tests.brute import EMPTY, ODD, YARD, amounts_of, full_yard, great_yard, less, reach_in, some_yards, spoiled

GREAT = 10 ** 12
FAR = 10 ** 15 - 1


def yards_and_orders(seed, many, supplies=(0, 1, 2, 4, 30)):
    """Small yards, SUPPLIES, and all their ORDERS."""
    for yard in some_yards(seed, many, cars=3, knots=2, great=3):
        known = brute.limits(yard)
        rows = brute.order_rows(yard, known)
        for supply in supplies:
            for row in brute.orders(yard, supply, rows):
                yield yard, known, supply, amounts_of(yard, row)


class Due(unittest.TestCase):
    def test_small_yards(self):
        for yard, known, _, amounts in yards_and_orders(1, 12, (3,)):
            x, told = sum(amounts.values()), brute.reaches(yard, 9, known)
            for h in range(8):
                self.assertEqual(due(yard, amounts, h), min(told[h], told[h + 1] - x))

    def test_edges(self):
        self.assertEqual([due(YARD, {"bus": 3}, h) for h in (0, 1, 2, 3, 4, FAR)], [0, 5, 8, 8, 8, 8])
        self.assertEqual([due(YARD, {}, h) for h in (0, 1, 2, 3, FAR)], [0, 5, 10, 11, 11])
        self.assertEqual([due(YARD, {"bus": 3, "van": 2}, h) for h in (0, 1, 2, FAR)], [0, 5, 6, 6])
        self.assertEqual([due(EMPTY, {}, 0), due(EMPTY, {}, FAR)], [0, 0])

    def test_no_reach_is_more_than_is_due(self):
        for yard, _, _, amounts in yards_and_orders(2, 10, (30,)):
            for h in range(5):
                self.assertLessEqual(reach(less(yard, amounts), h), due(yard, amounts, h))

    def test_at_the_bends_of_great_yards(self):
        for seed in range(3):
            yard = great_yard(seed)
            row = stairs(yard)
            amounts = order_for(yard, row[0][0] // 2)
            x = sum(amounts.values())
            for h in [0, 1, row[0][1], row[0][1] + 1, row[0][1] - 1, FAR]:
                self.assertEqual(due(yard, amounts, h), min(reach_in(row, h), reach_in(row, h + 1) - x))


class Keeps(unittest.TestCase):
    def test_small_yards(self):
        seen = set()
        for yard, known, supply, amounts in yards_and_orders(3, 25):
            short = brute.short_hours(yard, supply, amounts, known)
            full = brute.short_hours(yard, sum(amounts.values()), amounts, known)
            self.assertIs(keeps(yard, amounts), full is None)
            self.assertEqual(short_hours(yard, supply, amounts), short)
            self.assertIs(is_right(yard, supply, amounts), short is None)
            seen.add(short)
        self.assertLessEqual({None, 0, 1, 2, 3}, seen)

    def test_full_or_not_and_kept_or_not(self):
        self.assertEqual([keeps(YARD, amounts) for amounts in ({}, {"bus": 1}, {"van": 1}, {"bus": 3}, {"bus": 1, "van": 2}, {"bus": 3, "van": 2})],
                         [True, False, True, False, True, True])
        self.assertEqual([short_hours(YARD, 3, amounts) for amounts in ({}, {"bus": 1}, {"bus": 3}, {"bus": 2, "van": 1}, {"bus": 1, "van": 2})],
                         [0, 0, 2, None, None])
        self.assertEqual([short_hours(YARD, 99, {"bus": 4}), short_hours(YARD, 99, {"bus": 3, "van": 2}), short_hours(YARD, 99, {"bus": 4, "van": 1})],
                         [0, None, 1])
        self.assertEqual([short_hours(YARD, 0, {}), short_hours(EMPTY, 9, {}), keeps(EMPTY, {}), short_hours(((), (("a", "far", 1, 1),)), 9, {})],
                         [None, None, True, None])

    def test_short_behind_a_late_hour(self):
        # The one that takes longest is to go first; what it loses shows when it alone is left.
        late = ((), (("bus", "feed", 1, GREAT - 1), ("van", "feed", 1, 5 * 10 ** 11)))
        self.assertEqual([short_hours(late, 1, {"bus": 1}), short_hours(late, 1, {"van": 1}), short_hours(late, 2, {"bus": 1, "van": 1})],
                         [None, 5 * 10 ** 11, None])
        self.assertEqual([after_plenty(late, 1, {"van": 1}, 5 * 10 ** 11 + more) for more in (-1, 0)],
                         [(GREAT - 1, GREAT - 1), (GREAT, GREAT + 1)])

    def test_stairs_behind_hang_on_the_sum_alone(self):
        for yard, _, supply, amounts in yards_and_orders(4, 15, (1, 3, 9)):
            left = stairs(less(yard, amounts))
            self.assertIs(keeps(yard, amounts), left == taken(stairs(yard), sum(amounts.values())))

    def test_each_supply_has_a_right_order_and_others_are_short(self):
        found = {}
        for yard, _, supply, amounts in yards_and_orders(5, 15):
            hours = short_hours(yard, supply, amounts)
            found[yard, supply] = found.get((yard, supply), False) or hours is None
            for h in range(5):
                got, could = after_plenty(yard, supply, amounts, h)
                self.assertLessEqual(got, could)
                if hours is None:
                    self.assertEqual(got, could)
            if hours is not None:
                got, could = after_plenty(yard, supply, amounts, hours)
                self.assertLess(got, could)
        self.assertTrue(all(found.values()))

    def test_great_yards(self):
        for yard in (great_yard(0), full_yard(0)):
            first = stairs(yard)[0][0]
            for supply in (0, 1, first // 3, first, 10 * first):
                amounts = order_for(yard, supply)
                self.assertEqual([short_hours(yard, supply, amounts), keeps(yard, amounts), is_right(yard, supply, amounts)], [None, True, True])
            self.assertEqual(short_hours(yard, supply, {}), 0)


class IsRight(unittest.TestCase):
    def test_any_values(self):
        for thing in [*ODD, {"bus": True}, {"bus": 0}, {"cart": 1}, [("bus", 2), ("van", 1)], {"bus": 2.0, "van": 1}]:
            self.assertIs(is_right(YARD, 3, thing), False, thing)
        self.assertIs(is_right(YARD, 0, {}), True)
        self.assertIs(is_right(EMPTY, 5, {}), True)
        amounts = {"bus": 2, "van": 1}
        for supply in (2, 3, 4):
            for thing in [amounts, {"van": 1, "bus": 2}, *spoiled(amounts)]:
                meant = brute.is_order(YARD, supply, thing) and brute.short_hours(YARD, supply, thing) is None
                self.assertIs(is_right(YARD, supply, thing), meant, thing)

    def test_what_is_no_order(self):
        for amounts in ({"bus": 5}, {"van": 3}, {"bus": 4, "van": 2}, {"bus": 7}):
            self.assertIs(is_right(YARD, 99, amounts), False)
        self.assertIs(is_right(YARD, 2, {"bus": 2, "van": 1}), False)


class AfterPlenty(unittest.TestCase):
    def test_small_yards(self):
        for yard, known, supply, amounts in yards_and_orders(6, 15, (0, 2, 30)):
            left, both = brute.less(yard, amounts), brute.reaches(yard, 7, known)
            for h in range(6):
                got = sum(amounts.values()) + brute.reach(left, h, known)
                # COULD of a night of one hour of the SUPPLY and h hours of plenty.
                most = min(both[h + 1], both[h] + supply)
                self.assertEqual(after_plenty(yard, supply, amounts, h), (got, most))

    def test_could_is_that_of_the_night(self):
        chance = random.Random(7)
        for yard in some_yards(8, 20, cars=2, knots=2, great=2):
            supply, h = chance.randint(0, 4), chance.randint(0, 3)
            self.assertEqual(after_plenty(yard, supply, {}, h)[1], brute.could(yard, (supply,) + (20,) * h)[-1])

    def test_edges(self):
        self.assertEqual([after_plenty(YARD, 3, {"bus": 3}, h) for h in (0, 1, 2, 3, FAR)], [(3, 3), (8, 8), (10, 11), (11, 11), (11, 11)])
        self.assertEqual([after_plenty(YARD, 0, {}, h) for h in (0, 1, 2, FAR)], [(0, 0), (5, 5), (10, 10), (11, 11)])
        self.assertEqual([after_plenty(YARD, 9, {}, h) for h in (0, 1, 2, FAR)], [(0, 5), (5, 10), (10, 11), (11, 11)])
        self.assertIs(type(after_plenty(EMPTY, 3, {}, 2)), tuple)


if __name__ == "__main__":
    unittest.main()
