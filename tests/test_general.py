"""[3]: nothing that is passed in is changed, and equal arguments give equal results, whatever was called before."""
import copy
import unittest

from nightstairs import (bare, bookjudge, books, cells, could, keeping, nights, nomore, orderpapers, orders, partletters, partrows, parts, prices,
                         promises, rows, shares, unlike, witnesses)
from tests.brute import YARD
from tests.brute_parts import HALL

SMALL = ((("a", "b", 1), ("feed", "a", 3)), (("bus", "a", 2, 5), ("van", "b", 1, 2)))
ROW, NIGHT, ORDER = ((5, 2), (1, 1)), (2, 5, 1), {"van": 1, "bus": 2}
PLAN = ({"van": 1, "bus": 1}, {"van": 1, "bus": 2}, {"bus": 1})
WORTHS = {"van": 3, "bus": 1}
LEAVES, FIRSTS = ("leaves", SMALL, {"van": 2, "bus": 1}), ("firsts", SMALL, {"van": 1, "bus": 2})
TWO_ROWS = [ROW, ((2, 3),)]
DISK, METERS = ((YARD, 0), (1, 3, (("bus", 3),))), {"van": 1, "bus": 9}
BOOK = (YARD, (("hour", 3, ORDER), ("edit", ("car", "cart", "b", 1, 1)), ("hour", 0, {}), ("hour", 2, {"van": 1, "bus": 1})))

CALLS = (
    (rows.added, ([ROW, ((2, 3),)],)), (rows.could_in, (ROW, NIGHT)), (bare.bare_yard, (ROW,)), (bare.parting_hours, (YARD, SMALL)),
    (nights.is_order, (YARD, 3, ORDER)), (nights.is_plan, (SMALL, NIGHT, PLAN)), (nights.led, (SMALL, PLAN)), (nights.sums_of, (PLAN,)),
    (nights.all_orders, (YARD, 3)), (nights.could_by_all, (SMALL, NIGHT)), (could.could, (YARD, NIGHT)), (could.could_plan, (YARD, NIGHT)),
    (nomore.papers_of, (SMALL, NIGHT)), (nomore.is_as_good, (SMALL, NIGHT, PLAN, nomore.papers_of(SMALL, NIGHT))),
    (keeping.due, (YARD, ORDER, 2)), (keeping.keeps, (YARD, ORDER)), (keeping.is_right, (YARD, 3, ORDER)), (keeping.short_hours, (YARD, 3, ORDER)),
    (keeping.after_plenty, (YARD, 3, ORDER, 1)), (orders.order_for, (YARD, 3)), (orders.order_by, (YARD, 3, ("van", "bus"))),
    (orders.orders_for, (YARD, NIGHT)), (shares.shares, (YARD, 3)), (orderpapers.order_paper, (YARD, 3, ORDER)),
    (orderpapers.is_order_paper, (YARD, 3, ORDER, orderpapers.order_paper(YARD, 3, ORDER))), (orderpapers.short_paper, (YARD, 3, {"bus": 3})),
    (orderpapers.is_short_paper, (YARD, 3, {"bus": 3}, orderpapers.short_paper(YARD, 3, {"bus": 3}))), (promises.promised, (YARD, ORDER)),
    (promises.is_kept, (YARD, ORDER, NIGHT)), (promises.unkept_paper, (YARD, {"van": 5, "bus": 6}, NIGHT)), (promises.dearest, (SMALL, WORTHS, (2, 1))),
    (promises.worth_of, (ORDER, WORTHS)), (promises.dearest_paper, (SMALL, WORTHS, (2, 1))),
    (promises.is_dearest, (SMALL, WORTHS, (2, 1), {"van": 2, "bus": 1}, promises.dearest_paper(SMALL, WORTHS, (2, 1)))),
    (prices.cheapest, (SMALL, (5, 1, 2), (9, 9, 9), 7)), (prices.cheap_paper, (SMALL, (5, 1, 2), (9, 9, 9), 7)),
    (prices.is_cheapest, (SMALL, (5, 1, 2), (9, 9, 9), 7, (1, 3, 3), prices.cheap_paper(SMALL, (5, 1, 2), (9, 9, 9), 7))),
    (unlike.is_hard, (LEAVES,)), (unlike.is_hard_plan, (FIRSTS, NIGHT, PLAN)), (unlike.aim_of, (FIRSTS, PLAN)), (unlike.best_aim, (LEAVES, NIGHT)),
    (unlike.good_begins, (FIRSTS, NIGHT)), (unlike.best_plan, (LEAVES, NIGHT)), (unlike.best_plan, (FIRSTS, NIGHT)), (witnesses.witness_in, (FIRSTS, 3, 1)),
    (witnesses.is_witness, (LEAVES, (2, (1,), (0, 3)))), (parts.is_part, (HALL,)), (parts.parts_in, (HALL,)), (parts.flat_yard, (HALL,)),
    (parts.without_part, (HALL, "shed")), (parts.charged_part, (HALL, {"van": 1, "bus": 2})), (partrows.row_of, (HALL,)), (partrows.share_bounds, (TWO_ROWS, 3)),
    (partrows.shares_of, (TWO_ROWS, 3)), (partrows.are_shares, (TWO_ROWS, 3, (2, 1))), (partrows.order_in, (HALL, 4)),
    (partletters.hour_of, (HALL, 4, (("give", "shed"),))), (partletters.heard_part, (HALL, ("hall",))),
    (partletters.night_of, (HALL, (5, 0, 2), ((("row", "shed"),), (), ()))), (cells.is_disk, (DISK,)), (cells.first_disk, (YARD,)),
    (cells.disk_behind, (DISK, ("goals", (SMALL, 3)))), (cells.yard_now, (DISK, METERS)), (cells.hour_steps, (DISK, METERS, 2, 3)),
    (cells.edit_steps, (DISK, METERS, [("no car", "bus"), ("car", "cart", "b", 1, 1)])), (books.yards_of, (BOOK,)), (books.night_of, (BOOK,)),
    (books.sums_of, (BOOK,)), (books.stretches_of, (BOOK,)), (books.charged_in, (BOOK,)), (books.first_wrong, (BOOK,)), (books.with_hour, (BOOK, 3)),
    (books.with_order, (BOOK, 1, {"cart": 1})), (books.with_edit, (BOOK, ("no car", "cart"))), (books.show_book, (BOOK,)),
    (books.read_book, (books.show_book(BOOK),)), (bookjudge.is_book, (BOOK,)), (bookjudge.book_papers, (BOOK,)),
    (bookjudge.is_book_papers, (BOOK, bookjudge.book_papers(BOOK))), (bookjudge.night_papers, (BOOK,)),
    (bookjudge.is_night_papers, (BOOK, bookjudge.night_papers(BOOK))), (bookjudge.same_behind, (BOOK, books.with_hour(BOOK, 0))),
    (prices.least_supply, (SMALL, NIGHT, 0, 7)), (prices.least_cap, (SMALL, NIGHT, ("feed", "a"), 6)), (prices.raise_paper, (SMALL, NIGHT, 0, 7, 3)),
)


def told(value):
    """A value with the order of its keys."""
    return repr(value)


def boxes(value):
    """All lists and dicts in a value, each as often as it stands there."""
    if isinstance(value, (list, dict)):
        yield value
    if isinstance(value, (list, tuple)):
        for item in value:
            yield from boxes(item)
    elif isinstance(value, dict):
        for item in value.values():
            yield from boxes(item)


class General(unittest.TestCase):
    def test_nothing_passed_in_is_changed(self):
        first = []
        for function, arguments in CALLS:
            before = told(arguments)
            first.append(function(*arguments))
            self.assertEqual(told(arguments), before, function)
        for (function, arguments), answer in reversed(list(zip(CALLS, first))):
            self.assertEqual(told(function(*copy.deepcopy(arguments))), told(answer), function)

    def test_answers_are_not_those_passed_in(self):
        yard = promises.promised(YARD, ORDER)
        self.assertEqual(yard[0], YARD[0])
        amounts = orders.order_by(YARD, 3, ("van", "bus"))
        amounts["bus"] = 99
        self.assertEqual(orders.order_by(YARD, 3, ("van", "bus")), {"bus": 1, "van": 2})

    def test_no_dict_or_list_that_is_returned_is_one_that_was_passed_in_or_another_one(self):
        for function, arguments in CALLS:
            answer = function(*arguments)
            found = list(boxes(answer))
            self.assertEqual(len({id(box) for box in found}), len(found), function)
            self.assertFalse({id(box) for box in found} & {id(box) for box in boxes(arguments)}, function)
            for box in found:
                self.assertTrue(type(box) is list or list(box) == sorted(box), function)

    def test_truths_are_truths(self):
        for function, arguments in CALLS:
            if function.__name__.startswith(("is_", "are_", "keeps", "same_")):
                self.assertIn(function(*arguments), (True, False))
                self.assertIs(type(function(*arguments)), bool, function)


if __name__ == "__main__":
    unittest.main()
