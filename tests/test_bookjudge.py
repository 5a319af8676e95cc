"""[47]: the judge of books."""
import itertools
import random
import unittest

from nightstairs.bookjudge import book_papers, is_book, is_book_papers, is_night_papers, night_papers, same_behind
from nightstairs.books import charged_in, first_wrong, stretches_of, with_edit, with_hour, yards_of
from nightstairs.edits import changed, is_edit
from nightstairs.errors import NoCable, NoCar
from nightstairs.forms import is_yard
from nightstairs.house import House
from nightstairs.nights import all_orders
from nightstairs.nomore import is_nomore, said_by
from nightstairs.orderpapers import is_order_paper, order_paper
from nightstairs.stairs import stairs
from tests import brute
from tests.brute import EMPTY, ODD, great_yard, some_yards, spoiled
from tests.test_books import PAIR, RIGHT, some_book, some_books

SMALL = (PAIR, (("hour", 1, {"a": 1}), ("edit", ("car", "b", "k", 2, 2)), ("hour", 9, {"a": 2, "b": 1})))


def told_book(thing):
    """Whether it is a BOOK that STANDS, told another way."""
    if type(thing) is not tuple or len(thing) != 2 or not is_yard(thing[0]) or type(thing[1]) is not tuple:
        return False
    yard = thing[0]
    for entry in thing[1]:
        if type(entry) is not tuple or len(entry) not in (2, 3) or type(entry[0]) is not str:
            return False
        if len(entry) == 2:
            if entry[0] != "edit" or not is_edit(entry[1]):
                return False
            try:
                yard = changed(yard, [entry[1]])
            except (NoCar, NoCable):
                return False
        else:
            if entry[0] != "hour" or type(entry[1]) is not int or entry[1] < 0 or not brute.is_order(yard, entry[1], entry[2]):
                return False
            yard = brute.less(yard, entry[2])
    return True


def hours_of(book):
    return [(yard, entry[1], entry[2]) for yard, entry in zip(yards_of(book), book[1]) if entry[0] == "hour"]


def stretch_rows(book):
    """For each STRETCH the YARD ahead, its SUPPLIES and what it charged."""
    rows = []
    for begin, end in stretches_of(book):
        hours = book[1][begin:end]
        rows.append((yards_of(book)[begin], tuple(entry[1] for entry in hours), sum(sum(entry[2].values()) for entry in hours)))
    return rows


class IsBook(unittest.TestCase):
    def test_told_ones(self):
        for book in [SMALL, RIGHT, (PAIR, ()), (EMPTY, ()), (great_yard(1), (("hour", 3, {}),)), *some_books(1, 20), *some_books(2, 20, right=False)]:
            self.assertIs(is_book(book), True)
        for entry in (("hour", 0, {"a": 1}), ("hour", 9, {"a": 3}), ("edit", ("no car", "c")), ("edit", ("no cable", "a", "b")), ("hour", 1), ("edit",), ("hour",), (),
                      ("hour", 1, {}, {}), ("edit", ("no car", "a"), {}), ("edit", ["no car", "a"]), ("hour", 1, None), ("hour", True, {}), ("hour", -1, {}),
                      ("hour", 1, {"a": True}), ("hour", 1, {"a": 0}), ("order", 1, {}), ["hour", 1, {}], ("hour", "1", {}), ("edit", None), None, "hour",
                      ("edit", 1, {}), ("hour", ("no car", "a")), {"hour": 1}):
            self.assertIs(is_book((PAIR, (entry,))), False, entry)
        self.assertIs(is_book((PAIR, RIGHT[1][::-1])), False)

    def test_any_values(self):
        for thing in spoiled(SMALL):
            self.assertIs(is_book(thing), told_book(thing), thing)
        for thing in [*ODD, House(PAIR)]:
            for other in (thing, (PAIR, thing), (thing, ()), (PAIR, (thing,)), (PAIR, (("hour", thing, {}),)), (PAIR, (("hour", 9, thing),)),
                          (PAIR, (("edit", thing),)), (PAIR, (("hour", 9, {"a": thing}),)), (PAIR, ((thing, 9, {}),)), [PAIR, ()], (PAIR, ()) + (thing,)):
                self.assertIs(is_book(other), told_book(other), other)


class BookPapers(unittest.TestCase):
    def test_exactly_if_the_book_is_right(self):
        wrong = 0
        for book in [SMALL, RIGHT, (PAIR, ()), *some_books(3, 30), *some_books(4, 40, right=False)]:
            papers = book_papers(book)
            if first_wrong(book) is None:
                self.assertIs(is_book_papers(book, papers), True)
                told = hours_of(book)
                self.assertEqual(len(papers), len(told))
                self.assertTrue(all(is_order_paper(*hour, paper) for hour, paper in zip(told, papers)))
            else:
                wrong += 1
                self.assertIsNone(papers)
                others = tuple(order_paper(yard, supply, amounts) for yard, supply, amounts in hours_of(book))
                for thing in (others, None, (), tuple(other for other in others if other is not None)):
                    self.assertIs(is_book_papers(book, thing), False)
        self.assertGreater(wrong, 10)

    def test_no_hours(self):
        for book in ((PAIR, ()), (PAIR, (("edit", ("no car", "a")),))):
            self.assertEqual([book_papers(book), is_book_papers(book, ()), is_book_papers(book, []), is_book_papers(book, None), is_book_papers(book, ((),))],
                             [(), True, False, False, False])

    def test_papers_of_other_hours(self):
        papers = book_papers(SMALL)
        for thing in (papers[::-1], papers[:1], papers[1:], papers + papers[:1], list(papers), papers[:1] * 2):
            self.assertIs(is_book_papers(SMALL, thing), False)
        # An hour of 0 takes nothing, so its paper says nothing of the SUPPLIES.
        book = (PAIR, (("hour", 0, {}), ("hour", 0, {})))
        self.assertIs(is_book_papers(book, book_papers(book)[::-1]), True)

    def test_any_values(self):
        for book in (SMALL, (PAIR, (("hour", 1, {"a": 1}),))):
            papers, hours = book_papers(book), hours_of(book)
            for thing in spoiled(papers):
                told = type(thing) is tuple and len(thing) == len(hours) and all(is_order_paper(*hour, paper) for hour, paper in zip(hours, thing))
                self.assertIs(is_book_papers(book, thing), told, thing)
        for thing in ODD:
            self.assertIs(is_book_papers(SMALL, thing), False)
            self.assertIs(is_book_papers(SMALL, (thing, thing)), False)

    def test_a_great_book(self):
        book = (great_yard(3), ())
        for supply in (10 ** 12, 0, 7, 10 ** 11):
            book = with_hour(book, supply)
        self.assertIs(is_book(book), True)
        self.assertIs(is_book_papers(book, book_papers(book)), True)
        self.assertIs(is_night_papers(book, night_papers(book)), True)


class NightPapers(unittest.TestCase):
    def test_of_right_books(self):
        for book in [SMALL, RIGHT, (PAIR, ()), *some_books(5, 40)]:
            papers = night_papers(book)
            self.assertIs(is_night_papers(book, papers), True)
            self.assertEqual(len(papers), len(stretches_of(book)))

    def test_none_exactly_where_some_stretch_could_have_charged_more(self):
        seen = set()
        for book in some_books(6, 120, right=False):
            ends = [end - 1 for begin, end in stretches_of(book)]
            told = all(got == most for at, got, most in charged_in(book) if at in ends)
            papers = night_papers(book)
            self.assertEqual(papers is not None, told)
            seen.add((told, first_wrong(book) is None))
            if told:
                self.assertIs(is_night_papers(book, papers), True)
        # A book can have caught up by the end of each STRETCH.
        self.assertEqual(seen, {(True, True), (True, False), (False, False)})

    def test_no_papers_where_there_are_none(self):
        book = (((), (("a", "feed", 1, 1), ("b", "feed", 1, 2))), (("hour", 1, {"a": 1}), ("hour", 2, {"b": 1})))
        self.assertIsNone(night_papers(book))
        names, knots = ("a", "b"), ()
        lots = [lot for many in range(3) for lot in itertools.combinations(names, many)]
        hours = [lot for many in range(3) for lot in itertools.combinations(range(2), many)]
        for thing in itertools.product(hours, lots, [knots]):
            self.assertIs(is_night_papers(book, (thing,)), False)

    def test_all_papers_of_small_books(self):
        chance = random.Random(7)
        for yard in some_yards(8, 12, cars=2, knots=1, great=2):
            book = some_book(chance, yard, entries=3, right=False)
            rows = stretch_rows(book)
            if len(rows) != 1:
                continue
            left, night, got = rows[0]
            for thing in itertools.product(brute.lots_of(range(len(night) + 1)), brute.car_lots_of(left), brute.cuts_of(left)):
                told = is_nomore(left, night, len(night), thing) and brute.nomore_said(left, night, len(night), thing) == got
                self.assertIs(is_night_papers(book, (thing,)), told)

    def test_any_values(self):
        for book in (SMALL, RIGHT):
            papers, rows = night_papers(book), stretch_rows(book)
            for thing in spoiled(papers):
                told = type(thing) is tuple and len(thing) == len(rows) and all(
                    is_nomore(yard, night, len(night), paper) and said_by(yard, night, len(night), paper) == got
                    for (yard, night, got), paper in zip(rows, thing))
                self.assertIs(is_night_papers(book, thing), told, thing)
        for thing in ODD:
            self.assertIs(is_night_papers(SMALL, thing), False)
        self.assertEqual([is_night_papers((PAIR, ()), thing) for thing in ((), [], None, ((),))], [True, False, False, False])


class SameBehind(unittest.TestCase):
    def test_the_same_supplies_in_another_order(self):
        for yard in [PAIR, *some_yards(9, 15, cars=3)]:
            for night in ((1, 4, 2), (0, 3, 3)):
                books = []
                for turned in itertools.permutations(night):
                    book = (yard, ())
                    for supply in turned:
                        book = with_hour(book, supply)
                    books.append(book)
                self.assertTrue(all(same_behind(books[0], book) and same_behind(book, books[0]) for book in books))

    def test_by_the_stairs_of_the_last_yards(self):
        chance = random.Random(10)
        told = []
        for yard in some_yards(11, 25, cars=2, great=2):
            for _ in range(4):
                one, other = [some_book(chance, yard, entries=3, right=False) for _ in "ab"]
                same = stairs(yards_of(one)[-1]) == stairs(yards_of(other)[-1])
                self.assertIs(same_behind(one, other), same)
                told.append(same)
        self.assertEqual(set(told), {True, False})

    def test_other_yards(self):
        self.assertIs(same_behind((EMPTY, ()), (((), (("a", "feed", 1, 0),)), ())), True)
        self.assertIs(same_behind((PAIR, ()), with_edit((PAIR, ()), ("no car", "a"))), False)
        self.assertIs(same_behind((PAIR, ()), with_edit((PAIR, ()), ("cable", "x", "y", 3))), True)
        self.assertIs(same_behind((PAIR, (("hour", 1, {"a": 1}),)), (PAIR, (("hour", 1, {"b": 1}),))), False)

    def test_papers_are_told_of_orders_of_all_sorts(self):
        for yard in some_yards(12, 10, cars=2, great=2):
            for supply in (1, 3):
                for amounts in all_orders(yard, supply):
                    book = (yard, (("hour", supply, amounts),))
                    self.assertEqual(book_papers(book) is None, order_paper(yard, supply, amounts) is None)


if __name__ == "__main__":
    unittest.main()
