"""[41], [8]: parts by rows alone."""
import itertools
import random
import time
import unittest

from nightstairs.keeping import is_right
from nightstairs.orders import order_for
from nightstairs.partrows import are_shares, order_in, row_of, share_bounds, shares_of
from nightstairs.parts import flat_yard, part_in, parts_in, without_part
from nightstairs.rows import added, capped, reach_in, step_in, taken
from nightstairs.stairs import stairs
from tests import brute, brute_parts
from tests.brute import EMPTY, ODD, great_stairs, some_stairs, spoiled
from tests.brute_parts import HALL, SHED, all_shares, some_part, some_parts
from tests.test_parts import DEEP, WIDE, twelve

GREAT = 10 ** 15
ROWS = (((3, 1), (1, 1)), ((2, 1), (1, 1)))


def some_rows(chance, many=3, **sizes):
    return tuple(some_stairs(chance, **sizes) for _ in range(chance.randint(0, many)))


def firsts_of(rows):
    return sum(row[0][0] for row in rows if row)


class RowOf(unittest.TestCase):
    def test_against_the_flat_yard(self):
        for part in [SHED, HALL, DEEP, WIDE, *some_parts(1, 60, parts=6)]:
            self.assertEqual(row_of(part), stairs(flat_yard(part)), part)

    def test_against_all_lots_and_cuts(self):
        for part in some_parts(2, 20, parts=3, cars=2, knots=1):
            self.assertEqual(row_of(part), brute.stairs(brute_parts.flat(part)))

    def test_edges(self):
        van = ((), (("van", "feed", 2, 3),))
        self.assertEqual([row_of(("a", 0, van, ())), row_of(("a", 9, EMPTY, ())), row_of(("a", 1, van, ())), row_of(("a", 9, van, ()))],
                         [(), (), ((1, 3),), ((2, 1), (1, 1))])
        self.assertEqual([row_of(("a", 9, EMPTY, (("b", 0, van, ()),))), row_of(("a", 9, EMPTY, (("b", 1, van, ()),))), row_of(DEEP)], [(), ((1, 3),), ()])

    def test_who_has_the_same_row_gets_the_same(self):
        other = ("shed", 9, ((), (("cart", "feed", 1, 2), ("van", "feed", 1, 1))), ())
        self.assertEqual(row_of(other), row_of(SHED))
        for supply in range(8):
            one, two = order_in(HALL, supply), order_in(HALL[:3] + ((other,),), supply)
            self.assertEqual([one.get("bus"), one.get("van", 0)], [two.get("bus"), two.get("van", 0) + two.get("cart", 0)])

    def test_great_parts(self):
        part = twelve()
        begin = time.process_time()
        row = row_of(part)
        order = order_in(part, 5 * 10 ** 11)
        self.assertLess(time.process_time() - begin, 20)
        self.assertEqual(sum(order.values()), min(5 * 10 ** 11, row[0][0]))
        self.assertLess(len(row), 600)


class Shares(unittest.TestCase):
    def test_told_ones(self):
        self.assertEqual([share_bounds(ROWS, x) for x in range(6)],
                         [((0, 0), (0, 0)), ((0, 1), (0, 1)), ((0, 1), (0, 1)), ((1, 3), (1, 2)), ((1, 3), (1, 2)), ((1, 3), (1, 2))])
        self.assertEqual([shares_of(ROWS, x) for x in range(6)], [(0, 0), (1, 0), (1, 1), (2, 1), (3, 1), (3, 2)])

    def test_no_rows_and_empty_rows(self):
        self.assertEqual([share_bounds((), 0), shares_of((), 0), share_bounds(((), ()), 0), shares_of(((), ()), 0)], [(), (), ((0, 0), (0, 0)), (0, 0)])
        self.assertEqual([share_bounds(((), ((2, 3),)), 2), shares_of(((), ((2, 3),)), 2), shares_of(((), ((2, 3),), ()), 1)], [((0, 0), (0, 2)), (0, 2), (0, 1, 0)])

    def test_bounds_by_steps(self):
        chance = random.Random(3)
        for _ in range(200):
            rows = some_rows(chance)
            whole = [sum(steps) for steps in brute_parts.steps_of(rows, 30)]
            for x in range(firsts_of(rows) + 1):
                told = ((0, 0),) * len(rows)
                if x:
                    h = max(at + 1 for at, step in enumerate(whole) if step >= x)
                    told = tuple((brute.steps_in(row, h + 1)[h], brute.steps_in(row, h)[h - 1]) for row in rows)
                self.assertEqual(share_bounds(rows, x), told)

    def test_the_first_as_much_as_can_be(self):
        chance = random.Random(4)
        for _ in range(60):
            rows = some_rows(chance, step=4, runs=3, times=2)
            for x in range(firsts_of(rows) + 1):
                found = all_shares(rows, x)
                self.assertEqual(shares_of(rows, x), found[-1], (rows, x))
                bounds = share_bounds(rows, x)
                for at in range(len(rows)):
                    self.assertEqual(bounds[at][0] <= min(row[at] for row in found), True)
                    self.assertEqual(max(row[at] for row in found) <= bounds[at][1], True)

    def test_are_shares_exactly_between_the_bounds(self):
        chance = random.Random(5)
        for _ in range(50):
            rows = some_rows(chance, step=4, runs=3, times=2)
            for x in range(firsts_of(rows) + 1):
                found, bounds = all_shares(rows, x), share_bounds(rows, x)
                for shares in itertools.product(range(6), repeat=len(rows)):
                    within = sum(shares) == x and all(least <= share <= most for share, (least, most) in zip(shares, bounds))
                    self.assertEqual([are_shares(rows, x, shares), within], [shares in found] * 2, (rows, x, shares))

    def test_are_shares_of_any_value(self):
        for thing in ((3, 1), (2, 2)):
            self.assertIs(are_shares(ROWS, 4, thing), True)
        for thing in [*ODD, (4, 0), (1, 3), (3, 2), (2, 1), [3, 1], (3, True), (True, 3), (3, 1, 0), (3,), (3, -1), (5, -1), "31", {3: 1}, (3, "1"), (3, None)]:
            self.assertIs(are_shares(ROWS, 4, thing), False, thing)
        for thing in spoiled((2, 1)):
            told = type(thing) is tuple and all(type(share) is int for share in thing) and thing in ((2, 1), (1, 2))
            self.assertIs(are_shares(ROWS, 3, thing), told, thing)
        self.assertEqual([are_shares((), 0, thing) for thing in ((), (0,), [], None, {})], [True, False, False, False, False])
        self.assertEqual([are_shares(((), ()), 0, thing) for thing in ((0, 0), (False, 0), (0,))], [True, False, False])
        self.assertEqual([are_shares(ROWS, 0, thing) for thing in ((0, 0), (1, -1), (0, False))], [True, False, False])

    def test_between_two_steps_and_at_them(self):
        rows = (((9, 2), (4, 1)), ((6, 1), (5, 3)))
        self.assertEqual([share_bounds(rows, x) for x in (1, 5, 6, 9, 10, 14, 15)],
                         [((0, 0), (0, 5)), ((0, 0), (0, 5)), ((0, 4), (5, 5)), ((0, 4), (5, 5)), ((4, 9), (5, 5)), ((4, 9), (5, 5)), ((9, 9), (5, 6))])

    def test_great_numbers_take_no_more_steps(self):
        chance = random.Random(6)
        begin = time.process_time()
        for _ in range(20):
            rows = tuple(great_stairs(chance) for _ in range(12))
            first = step_in(added(rows), 1)
            for x in (0, 1, first // 2, first - 1, first, chance.randint(0, first)):
                shares = shares_of(rows, x)
                self.assertIs(are_shares(rows, x, shares), True)
                self.assertEqual(sum(shares), x)
                later = added([taken(row, share) for row, share in zip(rows, shares)])
                self.assertEqual(later, taken(added(rows), x))
                for h in (1, 10 ** 9, GREAT):
                    self.assertEqual(reach_in(later, h), min(reach_in(added(rows), h), reach_in(added(rows), h + 1) - x))
        self.assertLess(time.process_time() - begin, 10)


class OrderIn(unittest.TestCase):
    def test_right_for_the_flat_yard(self):
        for part in [SHED, HALL, DEEP, WIDE, *some_parts(7, 40, parts=5)]:
            yard = flat_yard(part)
            for supply in (0, 1, 2, 3, 5, 8, 99):
                order = order_in(part, supply)
                self.assertIs(is_right(yard, supply, order), True, (part, supply))
                self.assertEqual(list(order), sorted(order))

    def test_against_all_orders(self):
        for part in some_parts(8, 12, parts=3, cars=1, knots=1):
            yard = brute_parts.flat(part)
            for supply in range(5):
                rights = [brute.amounts_of(yard, row) for row in brute.right_orders(yard, supply)]
                self.assertIn(order_in(part, supply), rights)

    def test_each_yard_as_order_for_tells(self):
        def told(part, supply):
            rows = (stairs(part[2]),) + tuple(row_of(below) for below in part[3])
            x = min(supply, step_in(capped(added(rows), part[1]), 1))
            shares = shares_of(rows, x)
            amounts = order_for(part[2], shares[0])
            for below, share in zip(part[3], shares[1:]):
                amounts.update(told(below, share))
            return amounts
        for part in [HALL, WIDE, *some_parts(9, 40, parts=6)]:
            for supply in (0, 1, 2, 4, 7, 99):
                self.assertEqual(order_in(part, supply), told(part, supply))

    def test_edges(self):
        self.assertEqual([order_in(HALL, supply) for supply in (0, 1, 3, 4, 5, 10 ** 12)],
                         [{}, {"bus": 1}, {"bus": 2, "van": 1}, {"bus": 3, "van": 1}, {"bus": 3, "van": 2}, {"bus": 3, "van": 2}])
        self.assertEqual([order_in(DEEP, 9), order_in(("a", 0, SHED[2], ()), 9), order_in(without_part(HALL, "shed"), 4)], [{}, {}, {"bus": 3}])

    def test_no_net_is_asked_but_its_own(self):
        # Whatever else hangs there, a part with its share orders what it would order alone.
        chance = random.Random(10)
        for _ in range(20):
            part = some_part(chance, parts=5)
            for supply in (1, 3, 6):
                whole = order_in(part, supply)
                for name in parts_in(part):
                    one = part_in(part, name)
                    own = {car: much for car, much in whole.items() if car in [car[0] for car in flat_yard(one)[1]]}
                    self.assertEqual(order_in(one, sum(own.values())), own)


if __name__ == "__main__":
    unittest.main()
