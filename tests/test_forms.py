"""[12]: the forms."""
import re
import unittest

from nightstairs import forms
from nightstairs.errors import Wrong
from tests.brute import EMPTY, ODD, YARD, knots_of, spoiled


# The definitions of the document once more, in other words.
def integer(thing):
    return type(thing) is int


def count(thing):
    return type(thing) is int and thing >= 0


def name(thing):
    return type(thing) is str and re.fullmatch("[a-z][a-z0-9]{0,19}", thing) is not None and thing[-1] != "\n"


def cable(thing):
    return (type(thing) is tuple and len(thing) == 3 and name(thing[0]) and name(thing[1]) and thing[0] != thing[1]
            and thing[1] != "feed" and count(thing[2]))


def car(thing):
    return (type(thing) is tuple and len(thing) == 4 and name(thing[0]) and name(thing[1]) and count(thing[2])
            and thing[2] > 0 and count(thing[3]))


def ascending(row):
    items = list(row)
    return items == sorted(set(items))


def yard_form(thing):
    if type(thing) is not tuple or len(thing) != 2 or type(thing[0]) is not tuple or type(thing[1]) is not tuple:
        return False
    if not all(cable(row) for row in thing[0]) or not all(car(row) for row in thing[1]):
        return False
    return (ascending(thing[0]) and ascending(thing[1]) and ascending(row[:2] for row in thing[0])
            and ascending(row[0] for row in thing[1]))


def night(thing):
    return type(thing) is tuple and all(count(supply) for supply in thing)


def stairs(thing):
    if type(thing) is not tuple or not all(type(run) is tuple and len(run) == 2 for run in thing):
        return False
    if not all(count(part) and part > 0 for run in thing for part in run):
        return False
    steps = [run[0] for run in thing]
    return steps == sorted(set(steps), reverse=True)


def lot(names, thing):
    if type(thing) is not tuple or not all(type(part) is str and part in names for part in thing):
        return False
    return ascending(thing)


def amounts(names, thing):
    return type(thing) is dict and all(
        type(key) is str and key in names and count(much) and much > 0 for key, much in thing.items())


def flow(yard, thing):
    ends = [row[:2] for row in yard[0]]
    return type(thing) is dict and all(
        type(key) is tuple and len(key) == 2 and key in ends and count(much) and much > 0 for key, much in thing.items())


def copies(thing):
    return type(thing) is tuple and all(
        type(row) is tuple and len(row) == 2 and count(row[0]) and (row[1] is None or count(row[1])) for row in thing)


class Forms(unittest.TestCase):
    def agree(self, told, meant, values):
        """Each value, and each one with a part otherwise, is told as it is meant; both answers occur."""
        answers = set()
        for value in values:
            for thing in [value, *spoiled(value)]:
                answer = told(thing)
                self.assertIs(answer, bool(meant(thing)), thing)
                answers.add(answer)
            self.assertIs(told(value), True, value)
        self.assertEqual(answers, {True, False})

    def test_integers(self):
        self.agree(forms.is_integer, integer, [0, 1, -1, 7, -10 ** 39, 10 ** 40])
        self.agree(forms.is_count, count, [0, 1, 7, 10 ** 40])

    def test_names(self):
        self.agree(forms.is_name, name, ["a", "feed", "z9", "x" * 20, "abcdefghijklmnopqrst", "u0123456789"])
        for thing in ("", "x" * 21, "a_b", "a-b", "aB", "a ", " a", "a\n", "7b", "a.b", "a~", ("a",), ["a"], None, b"a"):
            self.assertIs(forms.is_name(thing), False)

    def test_cables_and_cars(self):
        self.agree(forms.is_cable, cable, [("a", "b", 0), ("feed", "a", 1), ("b", "a", 10 ** 14)])
        self.agree(forms.is_car, car, [("bus", "feed", 1, 0), ("feed", "a", 1, 1), ("b", "a", 10 ** 14, 10 ** 14)])

    def test_yards(self):
        many = (tuple(("feed", "k%02d" % at, at) for at in range(50)), tuple(("c%02d" % at, "k", 1, 0) for at in range(30)))
        ring = ((("a", "b", 0), ("b", "a", 0)), ())
        self.agree(forms.is_yard, yard_form, [YARD, EMPTY, ring, ((), YARD[1]), (YARD[0], ())])
        self.assertIs(forms.is_yard(many), True)

    def test_yards_with_things_twice(self):
        cables, cars = YARD
        for thing in (
            (cables[:1] * 2, ()), ((("a", "b", 3), ("a", "b", 4)), ()), ((), cars[:1] * 2), (cables[::-1], cars),
            (cables, cars[::-1]), ((), (("bus", "a", 4, 6), ("bus", "b", 4, 6))), (list(cables), cars), (cables, list(cars)),
            [cables, cars], (cables, cars, ()), (cables,), (cars, cables), ({}, {}), "ab", (cables, None),
        ):
            self.assertIs(forms.is_yard(thing), False)

    def test_nights_and_stairs(self):
        self.agree(forms.is_night, night, [(), (0,), (0, 3, 3), (1, 0, 10 ** 13)])
        self.agree(forms.is_stairs, stairs, [(), ((1, 1),), ((3, 1), (1, 4)), ((10 ** 20, 10 ** 20), (2, 1), (1, 1))])
        for thing in (((3, 1), (3, 1)), ((1, 4), (3, 1)), ((3, 0),), ((0, 3),), ((3, True),), ([3, 1],), [(3, 1)], ((3, 1, 1),)):
            self.assertIs(forms.is_stairs(thing), False)

    def test_lots(self):
        names = [row[0] for row in YARD[1]]
        self.agree(lambda thing: forms.is_car_lot(YARD, thing), lambda thing: lot(names, thing), [(), ("bus",), ("bus", "van")])
        self.agree(lambda thing: forms.is_cut(YARD, thing), lambda thing: lot(["a", "b"], thing), [(), ("b",), ("a", "b")])
        self.assertIs(forms.is_car_lot(YARD, ("a",)), False)
        self.assertIs(forms.is_cut(YARD, ("bus",)), False)
        self.assertIs(forms.is_cut(YARD, ("a", "feed")), False)

    def test_knots_stand_in_cables_and_cars(self):
        yard = ((("a", "b", 3),), (("bus", "c", 1, 1), ("van", "feed", 1, 1)))
        self.assertEqual(knots_of(yard), ["a", "b", "c", "feed"])
        self.assertIs(forms.is_cut(yard, ("a", "b", "c")), True)
        self.assertIs(forms.is_cut(EMPTY, ()), True)
        self.assertIs(forms.is_cut(EMPTY, ("feed",)), False)

    def test_amounts_and_flows(self):
        names = [row[0] for row in YARD[1]]
        self.agree(lambda thing: forms.is_amounts(YARD, thing), lambda thing: amounts(names, thing),
                   [{}, {"bus": 1}, {"van": 99, "bus": 1}, {"bus": 1, "van": 10 ** 20}])
        self.agree(lambda thing: forms.is_flow(YARD, thing), lambda thing: flow(YARD, thing),
                   [{}, {("feed", "a"): 1}, {("feed", "a"): 99, ("a", "b"): 1}, {("a", "b"): 1, ("feed", "a"): 10 ** 20}])

    def test_copies(self):
        self.agree(forms.is_copies, copies, [(), ((0, None),), ((2, None), (1, 0)), ((1, 1), (1, 1), (10 ** 15, 10 ** 20))])
        for thing in ([(1, 1)], ((1, 1, 1),), ((1,),), ((None, 1),), ((True, 1),), ((1, False),), ((-1, 1),), ((1, -1),)):
            self.assertIs(forms.is_copies(thing), False)

    def test_odd_values_are_told_and_not_changed(self):
        tells = [forms.is_integer, forms.is_count, forms.is_name, forms.is_cable, forms.is_car, forms.is_yard,
                 forms.is_night, forms.is_stairs, forms.is_copies]
        tells += [lambda thing, tell=tell: tell(YARD, thing)
                  for tell in (forms.is_car_lot, forms.is_cut, forms.is_amounts, forms.is_flow)]
        deep = 1
        for _ in range(19):
            deep = (deep,)
        for tell in tells:
            for thing in [*ODD, deep, Wrong(0), [deep], {deep: deep}]:
                shown = repr(thing)
                self.assertIn(tell(thing), (True, False))
                self.assertIsInstance(tell(thing), bool)
                self.assertEqual(repr(thing), shown)


if __name__ == "__main__":
    unittest.main()
