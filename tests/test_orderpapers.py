"""[33], [34]: papers that an order is right, and papers that it is short."""
import unittest

from nightstairs.forms import is_amounts, is_flow
from nightstairs.keeping import short_hours
from nightstairs.orderpapers import is_order_paper, is_short_paper, order_paper, short_paper
from nightstairs.orders import order_for
from nightstairs.reach import is_reach_paper
from nightstairs.rows import ends_of, taken
from nightstairs.shares import shares
from nightstairs.stairs import stairs, stairs_of
from tests import brute
from tests.brute import EMPTY, ODD, YARD, amounts_of, full_yard, great_yard, less, needs_out, reach_in, roomy_yards, some_yards, spoiled, worth

EVERY, VAN, NONE = (("bus", "van"), ("a", "b")), (("van",), ()), ((), ())
ORDER = {"bus": 2, "van": 1}
CORNERS = ((1, {"bus": 4, "van": 1}, {("feed", "a"): 5, ("a", "b"): 1}), (2, {"bus": 4, "van": 4}, {("feed", "a"): 8, ("a", "b"): 4}))
PAPER = ({("feed", "a"): 3, ("a", "b"): 1}, (EVERY, NONE), CORNERS)
FIRST, MANY = ({"bus": 2, "van": 1}, {("feed", "a"): 3, ("a", "b"): 1}), ({"bus": 4, "van": 4}, {("feed", "a"): 8, ("a", "b"): 4})
SHORT = (2, FIRST, MANY, VAN)


def shown(yard, h, amounts, flow):
    return is_amounts(yard, amounts) and is_flow(yard, flow) and brute.carries(yard, h, amounts, flow)


def within(yard, *rows):
    return all(sum(amounts.get(name, 0) for amounts in rows) <= need for name, _, _, need in yard[1])


def is_tuple(thing, many):
    return type(thing) is tuple and len(thing) == many


def order_form(yard, supply, amounts, thing):
    """The definition of ORDER PAPERS."""
    if not is_amounts(yard, amounts) or not within(yard, amounts) or not is_tuple(thing, 3):
        return False
    flow, papers, corners = thing
    if not shown(yard, 1, amounts, flow) or type(papers) is not tuple or not all(is_reach_paper(yard, paper) for paper in papers):
        return False
    pairs = [(needs_out(yard, lot), worth(yard, cut, lot)) for lot, cut in papers]
    if 0 not in [base for base, _ in pairs] or 0 not in [rise for _, rise in pairs]:
        return False
    row, x = stairs_of(pairs), sum(amounts.values())
    if x != min(supply, reach_in(row, 1)):
        return False
    row, left = taken(row, x), less(yard, amounts)
    ends = ends_of(row)
    if type(corners) is not tuple or not all(is_tuple(corner, 3) for corner in corners):
        return False
    if [(type(corner[0]), corner[0]) for corner in corners] != [(int, end) for end in ends]:
        return False
    return all(shown(left, h, some, way) and within(left, some) and sum(some.values()) == reach_in(row, h) for h, some, way in corners)


def short_form(yard, supply, amounts, thing):
    """The definition of SHORT PAPERS."""
    if not is_tuple(thing, 4) or type(thing[0]) is not int or thing[0] < 0:
        return False
    h, first, many, paper = thing
    if not is_tuple(first, 2) or not is_tuple(many, 2) or not shown(yard, 1, *first) or not shown(yard, h, *many):
        return False
    if sum(first[0].values()) > supply or not within(yard, first[0], many[0]) or not is_reach_paper(yard, paper):
        return False
    left = less(yard, amounts)
    said = needs_out(left, paper[0]) + h * worth(left, paper[1], paper[0])
    return said < sum(first[0].values()) + sum(many[0].values()) - sum(amounts.values())


class OrderPapers(unittest.TestCase):
    def test_all_orders_of_small_yards(self):
        for yard in some_yards(1, 40, cars=3, knots=3, great=3) + roomy_yards(2, 5):
            known = brute.limits(yard)
            rows = brute.order_rows(yard, known)
            for supply in (0, 1, 2, 4, 99):
                for row in brute.orders(yard, supply, rows)[::2]:
                    amounts = amounts_of(yard, row)
                    paper, hours = order_paper(yard, supply, amounts), short_hours(yard, supply, amounts)
                    if hours is None:
                        self.assertTrue(order_form(yard, supply, amounts, paper))
                        self.assertIs(is_order_paper(yard, supply, amounts, paper), True)
                        self.assertIsNone(short_paper(yard, supply, amounts))
                    else:
                        self.assertIsNone(paper)
                        short = short_paper(yard, supply, amounts)
                        self.assertEqual(short[0], hours)
                        self.assertTrue(short_form(yard, supply, amounts, short))
                        self.assertIs(is_short_paper(yard, supply, amounts, short), True)

    def test_any_values_as_thing(self):
        for yard, supply, amounts in ((YARD, 3, ORDER), (YARD, 0, {}), (YARD, 99, {"bus": 3, "van": 2}), (EMPTY, 4, {})):
            paper = order_paper(yard, supply, amounts)
            for thing in [paper, *spoiled(paper)]:
                self.assertIs(is_order_paper(yard, supply, amounts, thing), order_form(yard, supply, amounts, thing), thing)
        for thing in [PAPER, *spoiled(PAPER)]:
            self.assertIs(is_order_paper(YARD, 3, ORDER, thing), order_form(YARD, 3, ORDER, thing), thing)

    def test_any_values_as_amounts(self):
        for thing in [*ODD, [("bus", 2), ("van", 1)], *spoiled(ORDER)]:
            self.assertIs(is_order_paper(YARD, 3, thing, PAPER), order_form(YARD, 3, thing, PAPER), thing)
        self.assertIs(is_order_paper(YARD, 3, {"van": 1, "bus": 2}, PAPER), True)

    def test_another_supply_and_another_order(self):
        self.assertEqual([is_order_paper(YARD, supply, ORDER, PAPER) for supply in (0, 2, 3, 4, 5, 99)], [False, False, True, False, False, False])
        other = {"bus": 1, "van": 2}
        self.assertEqual([is_order_paper(YARD, 3, other, order_paper(YARD, 3, other)), is_order_paper(YARD, 3, other, PAPER)], [True, False])
        full = {"bus": 3, "van": 2}
        paper = order_paper(YARD, 5, full)
        self.assertEqual([is_order_paper(YARD, supply, full, paper) for supply in (4, 5, 6, 10 ** 12)], [False, True, True, True])
        for amounts in ({"bus": 3}, {"bus": 1}, {"bus": 5}, {"bus": 7}):
            self.assertIs(is_order_paper(YARD, 3, amounts, PAPER), False)

    def test_parts_otherwise(self):
        flow, papers, corners = PAPER
        # The papers may be any in any order, as long as no U is above what the corners reach.
        for some in ((EVERY, VAN, NONE), (NONE, EVERY), (NONE, VAN, EVERY, EVERY)):
            self.assertIs(is_order_paper(YARD, 3, ORDER, (flow, some, corners)), True)
        for some in ((EVERY,), (NONE,), (VAN,), (), (EVERY, VAN), (VAN, NONE), [EVERY, NONE], ((("bus", "van"), ()), NONE), None, EVERY):
            self.assertIs(is_order_paper(YARD, 3, ORDER, (flow, some, corners)), False, some)
        for some in (corners[:1], corners[1:], corners[::-1], corners + corners[1:], (), list(corners), (corners[0], (2,) + MANY[:1]),
                     (corners[0], (3,) + corners[1][1:]), ((True,) + corners[0][1:], corners[1]), (corners[0], (2,) + FIRST),
                     (corners[0], list(corners[1])), (corners[0], corners[1] + (None,))):
            self.assertIs(is_order_paper(YARD, 3, ORDER, (flow, papers, some)), False, some)
        # More than is left of the bus; more than a cable carries in so many hours.
        bus = (2, {"bus": 5, "van": 3}, {("feed", "a"): 8, ("a", "b"): 3})
        self.assertIs(is_order_paper(YARD, 3, ORDER, (flow, papers, (corners[0], bus))), False)
        fast = (1, {"bus": 2, "van": 3}, {("feed", "a"): 5, ("a", "b"): 3})
        self.assertIs(is_order_paper(YARD, 3, ORDER, (flow, papers, (fast, corners[1]))), False)
        for way in ({("feed", "a"): 3}, {("feed", "a"): 4, ("a", "b"): 1}, {}, None, {("feed", "a"): 3, ("a", "b"): True}):
            self.assertIs(is_order_paper(YARD, 3, ORDER, (way, papers, corners)), False)
        turned = ({("a", "b"): 1, ("feed", "a"): 3}, papers, ((1, {"van": 1, "bus": 4}, corners[0][2]), corners[1]))
        self.assertIs(is_order_paper(YARD, 3, ORDER, turned), True)

    def test_amounts_that_are_no_order(self):
        yard, papers = ((), (("bus", "feed", 3, 2), ("van", "feed", 3, 2))), ((("bus", "van"), ()), NONE)
        for amounts, meant in (({"bus": 2, "van": 2}, True), ({"bus": 3, "van": 1}, False), ({"van": 4}, False)):
            self.assertIs(is_order_paper(yard, 9, amounts, ({}, papers, ())), meant)
        yard = ((), (("bus", "feed", 3, 8), ("van", "feed", 3, 3)))
        corners = ((1, {"bus": 3, "van": 1}, {}), (2, {"bus": 3, "van": 3}, {}))
        self.assertIs(is_order_paper(yard, 5, {"bus": 5}, ({}, (*papers, (("bus",), ())), corners)), False)
        corners = ((1, {"bus": 3, "van": 1}, {}), (2, {"bus": 5, "van": 1}, {}))
        self.assertIs(is_order_paper(yard, 5, {"bus": 3, "van": 2}, ({}, (*papers, (("bus",), ())), corners)), True)

    def test_no_paper_for_an_order_that_is_not_right(self):
        for amounts in ({"bus": 3}, {"bus": 2}, {}):
            self.assertIsNone(order_paper(YARD, 3, amounts))
            for paper in (PAPER, order_paper(YARD, 3, ORDER), order_paper(YARD, 2, {"van": 2}), order_paper(YARD, 0, {})):
                self.assertIs(is_order_paper(YARD, 3, amounts, paper), False)

    def test_what_is_returned_is_new_and_ascending(self):
        paper = order_paper(YARD, 3, ORDER)
        dicts = [paper[0]] + [part for corner in paper[2] for part in corner[1:]]
        self.assertTrue(all(list(part) == sorted(part) for part in dicts))
        self.assertEqual(len({id(part) for part in dicts}), len(dicts))
        for part in dicts:
            part.clear()
        self.assertIs(is_order_paper(YARD, 3, ORDER, order_paper(YARD, 3, ORDER)), True)

    def test_great_yards(self):
        for yard in (great_yard(1), full_yard(2)):
            first = stairs(yard)[0][0]
            for supply in (first // 2, 2 * first):
                amounts = order_for(yard, supply)
                paper = order_paper(yard, supply, amounts)
                self.assertTrue(order_form(yard, supply, amounts, paper))
                self.assertIs(is_order_paper(yard, supply, amounts, paper), True)
                self.assertIs(is_order_paper(yard, supply - 1, amounts, paper), supply > first)


class ShortPapers(unittest.TestCase):
    def test_any_values_as_thing(self):
        for supply, amounts in ((3, {"bus": 3}), (3, {"bus": 1}), (99, {"bus": 4, "van": 1}), (2, {})):
            paper = short_paper(YARD, supply, amounts)
            for thing in [paper, *spoiled(paper)]:
                self.assertIs(is_short_paper(YARD, supply, amounts, thing), short_form(YARD, supply, amounts, thing), thing)
        for thing in [SHORT, *spoiled(SHORT)]:
            self.assertIs(is_short_paper(YARD, 3, {"bus": 3}, thing), short_form(YARD, 3, {"bus": 3}, thing), thing)

    def test_another_supply_and_another_order(self):
        self.assertEqual([is_short_paper(YARD, supply, {"bus": 3}, SHORT) for supply in (3, 4, 99)], [True, True, True])
        self.assertEqual([is_short_paper(YARD, 2, {"bus": 2}, SHORT), is_short_paper(YARD, 3, {"bus": 2}, SHORT)], [False, True])
        for amounts in (ORDER, {"bus": 1, "van": 2}):
            self.assertIs(is_short_paper(YARD, 3, amounts, SHORT), False)
        self.assertIsNone(short_paper(EMPTY, 9, {}))

    def test_no_paper_is_short_of_a_right_order(self):
        for yard in some_yards(3, 20, cars=2, knots=2, great=2):
            for supply in (1, 3):
                right = order_for(yard, supply)
                for row in brute.orders(yard, supply):
                    paper = short_paper(yard, supply, amounts_of(yard, row))
                    if paper is not None:
                        self.assertIs(is_short_paper(yard, supply, right, paper), False)

    def test_parts_otherwise(self):
        h, first, many, paper = SHORT
        for thing in ((1, first, many, paper), (3, first, many, paper), (-1, first, many, paper), (True, first, many, paper), (h, first, many, NONE),
                      (h, first, many, EVERY), (h, many, first, paper), (h, first, first, paper), (h, first, many), SHORT + (0,), list(SHORT),
                      (h, first[:1], many, paper), (h, list(first), many, paper), (h, first, ({"bus": 5, "van": 4}, {("feed", "a"): 9, ("a", "b"): 4}), paper),
                      (h, ({"bus": 4}, {("feed", "a"): 4}), many, paper), (h, ({}, {}), many, paper), (h, ({"bus": 2, "van": 1}, {}), many, paper)):
            self.assertIs(is_short_paper(YARD, 3, {"bus": 3}, thing), False, thing)
        self.assertIs(is_short_paper(YARD, 3, {"bus": 3}, SHORT), True)
        self.assertIs(is_short_paper(YARD, 3, {"bus": 1}, (0, ({"van": 2}, {("feed", "a"): 2, ("a", "b"): 2}), ({}, {}), EVERY)), True)
        self.assertIs(is_short_paper(YARD, 3, {"bus": 1}, (0, ({"van": 1}, {("feed", "a"): 1, ("a", "b"): 1}), ({}, {}), EVERY)), False)
        # More than an hour carries, in the first one.
        plain, every = ((), (("bus", "feed", 3, 8),)), (("bus",), ())
        self.assertIs(is_short_paper(plain, 9, {"bus": 2}, (0, ({"bus": 5}, {}), ({}, {}), every)), False)
        self.assertIs(is_short_paper(plain, 9, {"bus": 2}, (0, ({"bus": 3}, {}), ({}, {}), every)), True)
        # More than the needs allow, both together.
        self.assertIs(is_short_paper(YARD, 9, {}, (1, ({"bus": 4}, {("feed", "a"): 4}), ({"bus": 3}, {("feed", "a"): 3}), EVERY)), False)

    def test_great_yards(self):
        for yard in (great_yard(1), full_yard(2)):
            supply = stairs(yard)[0][0] // 2
            paper = short_paper(yard, supply, {})
            self.assertTrue(short_form(yard, supply, {}, paper))
            self.assertEqual(paper[0], 0)
            self.assertIs(is_short_paper(yard, supply, {}, paper), True)
            self.assertIs(is_short_paper(yard, supply - 1, {}, paper), False)
            for name, (low, high) in shares(yard, supply).items():
                amounts = order_for(yard, supply)
                others = [other for other in amounts if other != name]
                if low < amounts.get(name, 0) and others:
                    paper = short_paper(yard, supply, {other: amounts[other] for other in others})
                    self.assertTrue(short_form(yard, supply, {other: amounts[other] for other in others}, paper))

    def test_what_is_returned_is_new_and_ascending(self):
        paper = short_paper(YARD, 3, {"bus": 3})
        dicts = [part for couple in paper[1:3] for part in couple]
        self.assertTrue(all(list(part) == sorted(part) for part in dicts))
        self.assertEqual(len({id(part) for part in dicts}), 4)
        for part in dicts:
            part.clear()
        self.assertIs(is_short_paper(YARD, 3, {"bus": 3}, short_paper(YARD, 3, {"bus": 3})), True)


if __name__ == "__main__":
    unittest.main()
