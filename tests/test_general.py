"""[3]: nothing that is passed in is changed, and equal arguments give equal results, whatever was called before."""
import copy
import unittest

from nightstairs import bare, could, keeping, nights, nomore, orderpapers, orders, prices, promises, rows, shares
from tests.brute import YARD

SMALL = ((("a", "b", 1), ("feed", "a", 3)), (("bus", "a", 2, 5), ("van", "b", 1, 2)))
ROW, NIGHT, ORDER = ((5, 2), (1, 1)), (2, 5, 1), {"van": 1, "bus": 2}
PLAN = ({"van": 1, "bus": 1}, {"van": 1, "bus": 2}, {"bus": 1})
WORTHS = {"van": 3, "bus": 1}

CALLS = (
    (rows.added, ([ROW, ((2, 3),)],)), (rows.could_in, (ROW, NIGHT)), (bare.bare_yard, (ROW,)), (bare.parting_hours, (YARD, SMALL)),
    (nights.is_order, (YARD, 3, ORDER)), (nights.is_plan, (SMALL, NIGHT, PLAN)), (nights.led, (SMALL, PLAN)), (nights.sums_of, (PLAN,)),
    (nights.all_orders, (YARD, 3)), (nights.could_by_all, (SMALL, NIGHT)), (could.could, (YARD, NIGHT)), (could.could_plan, (YARD, NIGHT)),
    (nomore.papers_of, (SMALL, NIGHT)), (nomore.is_as_good, (SMALL, NIGHT, PLAN, nomore.papers_of(SMALL, NIGHT))),
    (keeping.due, (YARD, ORDER, 2)), (keeping.keeps, (YARD, ORDER)), (keeping.is_right, (YARD, 3, ORDER)), (keeping.short_hours, (YARD, 3, ORDER)),
    (keeping.after_plenty, (YARD, 3, ORDER, 1)), (orders.order_for, (YARD, 3)), (orders.order_by, (YARD, 3, ("van", "bus"))),
    (orders.orders_for, (YARD, NIGHT)), (shares.shares, (YARD, 3)), (orderpapers.order_paper, (YARD, 3, ORDER)),
    (orderpapers.is_order_paper, (YARD, 3, ORDER, orderpapers.order_paper(YARD, 3, ORDER))), (orderpapers.short_paper, (YARD, 3, {"bus": 3})),
    (orderpapers.is_short_paper, (YARD, 3, {"bus": 3}, orderpapers.short_paper(YARD, 3, {"bus": 3}))), (promises.promised, (YARD, ORDER)),
    (promises.is_kept, (YARD, ORDER, NIGHT)), (promises.unkept_paper, (YARD, {"van": 5, "bus": 6}, NIGHT)), (promises.dearest, (SMALL, WORTHS, (2, 1))),
    (promises.worth_of, (ORDER, WORTHS)), (promises.dearest_paper, (SMALL, WORTHS, (2, 1))),
    (promises.is_dearest, (SMALL, WORTHS, (2, 1), {"van": 2, "bus": 1}, promises.dearest_paper(SMALL, WORTHS, (2, 1)))),
    (prices.cheapest, (SMALL, (5, 1, 2), (9, 9, 9), 7)), (prices.cheap_paper, (SMALL, (5, 1, 2), (9, 9, 9), 7)),
    (prices.is_cheapest, (SMALL, (5, 1, 2), (9, 9, 9), 7, (1, 3, 3), prices.cheap_paper(SMALL, (5, 1, 2), (9, 9, 9), 7))),
    (prices.least_supply, (SMALL, NIGHT, 0, 7)), (prices.least_cap, (SMALL, NIGHT, ("feed", "a"), 6)), (prices.raise_paper, (SMALL, NIGHT, 0, 7, 3)),
)


def told(value):
    """A value with the order of its keys."""
    return repr(value)


class General(unittest.TestCase):
    def test_nothing_passed_in_is_changed(self):
        first = []
        for function, arguments in CALLS:
            before = told(arguments)
            first.append(function(*arguments))
            self.assertEqual(told(arguments), before, function)
        for (function, arguments), answer in reversed(list(zip(CALLS, first))):
            self.assertEqual(told(function(*copy.deepcopy(arguments))), told(answer), function)

    def test_answers_are_not_those_passed_in(self):
        yard = promises.promised(YARD, ORDER)
        self.assertEqual(yard[0], YARD[0])
        amounts = orders.order_by(YARD, 3, ("van", "bus"))
        amounts["bus"] = 99
        self.assertEqual(orders.order_by(YARD, 3, ("van", "bus")), {"bus": 1, "van": 2})

    def test_truths_are_truths(self):
        for function, arguments in CALLS:
            if function.__name__.startswith(("is_", "keeps")):
                self.assertIn(function(*arguments), (True, False))
                self.assertIs(type(function(*arguments)), bool, function)


if __name__ == "__main__":
    unittest.main()
