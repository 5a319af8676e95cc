"""[5] to [10] over the whole program: all cuts, orders, plans and nights of small yards, and from a text to the papers of a book."""
import itertools
import random
import unittest

from nightstairs.bare import are_alike, bare_yard, parting_hours
from nightstairs.bookjudge import book_papers, is_book, is_book_papers, is_night_papers, night_papers, same_behind
from nightstairs.books import charged_in, first_wrong, read_book, show_book, with_hour
from nightstairs.could import could, could_plan
from nightstairs.cuts import least_cut, worth
from nightstairs.desk import Desk
from nightstairs.errors import PowerCut
from nightstairs.house import House
from nightstairs.keeping import after_plenty, due, is_right, short_hours
from nightstairs.nights import all_orders, could_by_all, is_plan, led, sums_of
from nightstairs.nomore import is_as_good, papers_of
from nightstairs.orderpapers import is_order_paper, is_short_paper, order_paper, short_paper
from nightstairs.orders import order_by, order_for, orders_for
from nightstairs.partletters import night_of
from nightstairs.partrows import row_of
from nightstairs.parts import flat_yard, part_in
from nightstairs.reach import is_reach_paper, reach, reach_paper, said_by
from nightstairs.rows import behind, could_in, reach_in, taken
from nightstairs.shares import shares
from nightstairs.stairs import stairs
from nightstairs.unlike import best_aim, good_begins
from nightstairs.witnesses import is_witness, witness_in
from nightstairs.yards import charged, joined_amounts
from nightstairs.yardtexts import read_yard, show_yard
from tests import brute, brute_hard, brute_parts
from tests.brute import some_yards

NIGHTS = [night for many in range(4) for night in itertools.product((0, 1, 3), repeat=many)]


def small_yards(seed, many):
    return some_yards(seed, many, cars=3, knots=2, cables=3, great=3)


class Reach(unittest.TestCase):
    """[5]"""

    def test_the_least_of_all_papers(self):
        for yard in small_yards(1, 15):
            papers = list(itertools.product(brute.car_lots_of(yard), brute.cuts_of(yard)))
            self.assertTrue(all(is_reach_paper(yard, paper) for paper in papers))
            steps = stairs(yard)
            for h in range(6):
                told = min(said_by(yard, h, paper) for paper in papers)
                self.assertEqual([reach(yard, h), reach_in(steps, h), said_by(yard, h, reach_paper(yard, h))], [told] * 3)

    def test_least_lots_are_nested_and_steps_fall(self):
        for yard in small_yards(2, 15):
            ahead = brute.car_lots_of(yard)
            for h in range(1, 7):
                least = [lot for lot in brute.car_lots_of(yard) if said_by(yard, h, (lot, least_cut(yard, lot))) == reach(yard, h)]
                self.assertTrue(any(set(lot) <= set(other) for lot in least for other in ahead))
                self.assertLessEqual(reach(yard, h + 1) - reach(yard, h), reach(yard, h) - reach(yard, h - 1))
                ahead = least

    def test_no_flow_goes_beyond_a_cut(self):
        for yard in small_yards(3, 15):
            for lot in brute.car_lots_of(yard):
                self.assertEqual(worth(yard, least_cut(yard, lot), lot), brute.limit(yard, lot))


class Could(unittest.TestCase):
    """[6]"""

    def test_all_nights(self):
        for yard in small_yards(4, 8):
            known = brute.limits(yard)
            for night in NIGHTS:
                told = could(yard, night)
                self.assertEqual(told, brute.could(yard, night))
                self.assertEqual([list(told), could_by_all(yard, night)], [could_in(stairs(yard), night), told])
                self.assertEqual(told, tuple(brute.least_said(yard, night, m, known) for m in range(len(night) + 1)))
                plan = could_plan(yard, night)
                self.assertIs(is_plan(yard, night, plan), True)
                self.assertEqual(sums_of(plan)[-1], told[-1])


class Orders(unittest.TestCase):
    """[7]"""

    def test_all_orders(self):
        for yard in small_yards(5, 15):
            for supply in (0, 1, 3, 9):
                rights = 0
                for amounts in all_orders(yard, supply):
                    h, later = short_hours(yard, supply, amounts), charged(yard, amounts)
                    self.assertTrue(all(reach(later, hours) <= due(yard, amounts, hours) for hours in range(5)))
                    self.assertIs(is_right(yard, supply, amounts), h is None)
                    rights += h is None
                    if h is None:
                        self.assertIs(is_order_paper(yard, supply, amounts, order_paper(yard, supply, amounts)), True)
                        self.assertTrue(all(len(set(after_plenty(yard, supply, amounts, hours))) == 1 for hours in range(5)))
                    else:
                        self.assertIs(is_short_paper(yard, supply, amounts, short_paper(yard, supply, amounts)), True)
                        got, could_be = after_plenty(yard, supply, amounts, h)
                        self.assertLess(got, could_be)
                self.assertGreater(rights, 0)

    def test_whatever_right_orders_are_chosen_it_is_could_by_every_hour(self):
        for yard in some_yards(6, 8, cars=2, knots=2, cables=3, great=2):
            for night in ((1, 2), (2, 1, 3), (1, 0, 2)):
                told = could(yard, night)
                plans = [()]
                for supply in night:
                    plans = [plan + (amounts,) for plan in plans for left in [led(yard, plan)] for amounts in all_orders(left, supply)
                             if is_right(left, supply, amounts)]
                self.assertTrue(all(sums_of(plan) == told for plan in plans))
                self.assertIn(orders_for(yard, night), plans)

    def test_as_good_as_who_knew(self):
        for yard in small_yards(7, 8):
            for night in NIGHTS:
                self.assertIs(is_as_good(yard, night, orders_for(yard, night), papers_of(yard, night)), True)

    def test_each_wish_of_cars_is_a_right_order(self):
        for yard in small_yards(8, 10):
            told = shares(yard, 3)
            for names in itertools.permutations([car[0] for car in yard[1]]):
                amounts = order_by(yard, 3, names)
                self.assertIs(is_right(yard, 3, amounts), True)
                self.assertTrue(all(told[name][0] <= amounts.get(name, 0) <= told[name][1] for name in names))
                if names:
                    self.assertEqual(amounts.get(names[0], 0), told[names[0]][1])


class Rows(unittest.TestCase):
    """[8]"""

    def test_stairs_behind_hang_on_the_stairs_and_the_supplies(self):
        for yard in small_yards(9, 10):
            for supply in (0, 1, 2, 4):
                rights = [amounts for amounts in all_orders(yard, supply) if is_right(yard, supply, amounts)]
                later = {stairs(charged(yard, amounts)) for amounts in rights}
                self.assertEqual(later, {taken(stairs(yard), sum(rights[0].values()))})
            for night in ((1, 3, 2), (2, 2, 5)):
                told = {stairs(led(yard, orders_for(yard, turned))) for turned in itertools.permutations(night)}
                self.assertEqual(told, {behind(stairs(yard), night)})

    def test_alike_exactly_if_the_stairs_are_the_same(self):
        yards = small_yards(10, 12)
        yards += [bare_yard(stairs(yard)) for yard in yards]
        for one, other in itertools.combinations(yards, 2):
            self.assertIs(are_alike(one, other), stairs(one) == stairs(other))
            h = parting_hours(one, other)
            if h is None:
                self.assertTrue(all(could(one, night) == could(other, night) for night in NIGHTS))
            else:
                night = (10 ** 6,) * h
                self.assertNotEqual(could(one, night)[-1], could(other, night)[-1])
                self.assertEqual(could(one, night)[:-1], could(other, night)[:-1])

    def test_what_hangs_behind_a_cable_is_its_stairs_alone(self):
        for part in brute_parts.some_parts(11, 12, parts=4):
            for name in brute_parts.names_in(part)[1:]:
                bare = (name, part_in(part, name)[1], renamed(bare_yard(row_of(part_in(part, name)))), ())
                self.assertEqual(row_of(exchanged(part, name, bare)), row_of(part))

    def test_nights_of_parts_go_as_those_of_the_flat_yard(self):
        for part in brute_parts.some_parts(12, 12, parts=4):
            for night in ((2, 0, 5), (3, 3, 3)):
                rows, last = night_of(part, night, ((),) * 3)
                self.assertEqual(sums_of(tuple(rows)), could(flat_yard(part), night))
                self.assertEqual(stairs(flat_yard(last)), behind(row_of(part), night))


def renamed(yard):
    """The yard with other names of cars, which no PART of the tests has."""
    return yard[0], tuple(("q" + car[0],) + car[1:] for car in yard[1])


def exchanged(part, name, other):
    if part[0] == name:
        return other
    return part[:3] + (tuple(exchanged(below, name, other) for below in part[3]),)


class Limits(unittest.TestCase):
    """[9]"""

    def test_whatever_order_is_chosen_one_night_is_lost(self):
        chance = random.Random(13)
        found = 0
        for at in range(60):
            hard = brute_hard.tight_hard(chance, ("leaves", "firsts")[at % 2])
            witness = witness_in(hard, 4, 1)
            if witness is None:
                continue
            found += 1
            self.assertIs(is_witness(hard, witness), True)
            supply, one, other = witness
            for row in brute.orders(hard[1], supply):
                lost = 0
                for night in ((supply,) + one, (supply,) + other):
                    plans = [plan for plan in brute_hard.hard_plans(hard, night) if plan[0] == row]
                    lost += all(brute_hard.aim(hard, plan) != best_aim(hard, night) for plan in plans)
                self.assertGreater(lost, 0)
        self.assertGreater(found, 2)

    def test_the_yard_itself_has_no_such_nights(self):
        for yard in small_yards(14, 10):
            if all(car[3] <= 4 for car in yard[1]):
                hard = ("leaves", yard, {car[0]: 9 for car in yard[1]})
                for night in ((1, 3), (3, 0), (2, 9)):
                    self.assertIn(order_for(yard, night[0]), good_begins(hard, night))


class Kept(unittest.TestCase):
    """[10]"""

    def test_all_cuts_of_a_night(self):
        for yard in small_yards(15, 6):
            night = (2, 0, 3, 9)
            told = could(yard, night)
            whole = House(yard)
            for number, supply in enumerate(night):
                whole.hour(number, supply)
            for many in range(12):
                house, got = House(yard), [0]
                house.fail_after(many)
                for number, supply in enumerate(night):
                    try:
                        house.hour(number, supply)
                    except PowerCut:
                        house.boot()
                        house.hour(number, supply)
                    got.append(sum(house.meters().values()))
                self.assertEqual(tuple(got), told)
                self.assertTrue(house == whole)
                self.assertEqual(house.log(), whole.log())

    def test_a_book_that_the_judge_takes_is_right_in_each_hour(self):
        for yard in some_yards(16, 8, cars=2, knots=1, cables=2, great=2):
            orders = [("hour", supply, amounts) for supply in (1, 2) for amounts in all_orders(yard, supply)]
            for entries in itertools.product(orders, repeat=2):
                book = (yard, entries)
                if is_book(book):
                    papers = book_papers(book)
                    told = first_wrong(book) is None
                    self.assertEqual([papers is not None, papers is not None and is_book_papers(book, papers)], [told, told])
                    if told:
                        self.assertTrue(all(got == most for _, got, most in charged_in(book)))
                        self.assertIs(is_night_papers(book, night_papers(book)), True)

    def test_a_house_and_a_book_of_the_same_night(self):
        for yard in small_yards(17, 10):
            house, book = House(yard), (yard, ())
            for number, supply in enumerate((3, 1, 0, 5)):
                book = with_hour(book, supply)
                self.assertEqual(house.hour(number, supply), book[1][-1][2])
            self.assertEqual(house.meters(), {car[0]: joined_amounts([entry[2] for entry in book[1]]).get(car[0], 0) for car in yard[1]})


class FromTextToPapers(unittest.TestCase):
    def test_a_night(self):
        text = "# two knots\ncable feed a 5\ncable a b 3\ncar bus a 4 6\n\n  car van b 2 5 # by the wall"
        desk = Desk(read_yard(text))
        self.assertEqual([desk.execute(line) for line in ("stairs", "reach 2", "could 3 9 0 4", "hour 3", "hour 9")][:3],
                         [["5 2", "1 1"], ["10"], ["0", "3", "8", "8", "11"]])
        for line, told in (("order 0", ["done"]), ("order 4 van=1", ["short 0"]), ("hour 4", None), ("charged", ["0 3 3", "1 8 8", "2 8 8", "3 11 11"]),
                           ("stairs", []), ("edit car tram a 3 7", ["done"]), ("edit no car bus", ["done"]), ("hour 2", ["tram=2"]), ("reach 9", ["5"]),
                           ("paper", ["taken"]), ("night", ["3 9 0 4 2"])):
            answer = desk.execute(line)
            self.assertTrue(told is None or answer == told, (line, answer))
        book = read_book("\n".join(desk.execute("book")))
        self.assertEqual(book, desk.book())
        self.assertIs(is_book_papers(book, book_papers(book)), True)
        self.assertIs(is_night_papers(book, night_papers(book)), True)

    def test_any_nights_of_small_yards(self):
        chance = random.Random(18)
        for yard in small_yards(19, 15):
            desks = [Desk(read_yard(show_yard(yard))) for _ in "ab"]
            night = [chance.randint(0, 5) for _ in range(4)]
            for supply in night:
                desks[0].execute("hour %d" % supply)
            for supply in night[::-1]:
                desks[1].execute("hour %d" % supply)
            self.assertIs(same_behind(desks[0].book(), desks[1].book()), True)
            self.assertEqual(desks[0].execute("stairs"), desks[1].execute("stairs"))
            for desk in desks:
                self.assertEqual(desk.execute("paper"), ["taken"])
                book = read_book(show_book(desk.book()))
                self.assertEqual(tuple(most for _, _, most in charged_in(book)), could(yard, tuple(entry[1] for entry in book[1]))[1:])


if __name__ == "__main__":
    unittest.main()
