"""[14]: edits."""
import itertools
import random
import unittest

from nightstairs.edits import changed, edits_between, is_edit
from nightstairs.errors import NoCable, NoCar
from nightstairs.forms import is_cable, is_car, is_name, is_yard
from tests.brute import EMPTY, ODD, YARD, some_yards, spoiled

GOOD = [("cable", "feed", "a", 0), ("cable", "a", "b", 9), ("no cable", "a", "b"), ("no cable", "feed", "a"),
        ("car", "bus", "feed", 1, 0), ("car", "feed", "a", 10 ** 13, 10 ** 13), ("no car", "bus"), ("no car", "feed")]


def edit_form(thing):
    if type(thing) is not tuple or not thing or type(thing[0]) is not str:
        return False
    if thing[0] == "no cable":
        return (len(thing) == 3 and is_name(thing[1]) and is_name(thing[2]) and thing[1] != thing[2]
                and thing[2] != "feed")
    return ((thing[0] == "cable" and is_cable(thing[1:])) or (thing[0] == "car" and is_car(thing[1:]))
            or (thing[0] == "no car" and len(thing) == 2 and is_name(thing[1])))


class Edits(unittest.TestCase):
    def test_is_edit(self):
        for good in GOOD:
            self.assertIs(is_edit(good), True)
            for thing in spoiled(good):
                self.assertIs(is_edit(thing), bool(edit_form(thing)), thing)

    def test_is_edit_of_others(self):
        for thing in [*ODD, *[list(good) for good in GOOD], ("cable",), ("no cable",), ("car",), ("no car",),
                      ("no cable", "a", "feed"), ("no cable", "a", "a"), ("no cable", "a", "b", 0), ("no car", "bus", 0),
                      ("cable", "a", "b", True), ("car", "a", "b", True, 0), ("car", "a", "b", 1, False), ("cable", "a", "b"),
                      ("car", "a", "b", 1), ("no car", "A"), ("no  car", "a"), ("Car", "a", "b", 1, 1)]:
            self.assertIs(is_edit(thing), False)

    def test_one_edit_of_each_sort(self):
        cables, cars = YARD
        for edit, yard in (
            (("cable", "a", "b", 4), ((("a", "b", 4), cables[1]), cars)),
            (("cable", "b", "a", 4), (cables[:1] + (("b", "a", 4),) + cables[1:], cars)),
            (("cable", "feed", "a", 5), YARD),
            (("no cable", "feed", "a"), (cables[:1], cars)),
            (("car", "bus", "b", 1, 0), (cables, (("bus", "b", 1, 0), cars[1]))),
            (("car", "car", "b", 1, 0), (cables, (cars[0], ("car", "b", 1, 0), cars[1]))),
            (("no car", "bus"), (cables, cars[1:])),
        ):
            for edits in ([edit], (edit,)):
                self.assertEqual(changed(YARD, edits), yard)
                self.assertTrue(is_yard(yard))

    def test_rows_of_edits(self):
        self.assertEqual(changed(YARD, []), YARD)
        self.assertEqual(changed(YARD, ()), YARD)
        self.assertEqual(changed(EMPTY, (("cable", "x", "y", 1), ("no cable", "x", "y"))), EMPTY)
        self.assertEqual(changed(EMPTY, (("car", "x", "y", 1, 1), ("no car", "x"), ("car", "x", "z", 2, 2))),
                         ((), (("x", "z", 2, 2),)))

    def test_what_is_not_there(self):
        for edits, ends in (
            ([("no cable", "b", "a")], ("b", "a")), ([("no cable", "feed", "b")], ("feed", "b")),
            ([("no cable", "a", "b"), ("no cable", "a", "b"), ("no car", "x")], ("a", "b")),
            ([("cable", "x", "y", 1), ("no cable", "x", "y"), ("no cable", "x", "y")], ("x", "y")),
        ):
            with self.assertRaises(NoCable) as caught:
                changed(YARD, edits)
            self.assertEqual((caught.exception.start, caught.exception.end), ends)
        for edits, name in (
            ([("no car", "x")], "x"), ([("no car", "bus"), ("no car", "bus"), ("no cable", "x", "y")], "bus"),
            ([("car", "x", "y", 1, 1), ("no car", "x"), ("no car", "x")], "x"),
            ((("no car", "y"), ("no car", "x")), "y"),
        ):
            with self.assertRaises(NoCar) as caught:
                changed(YARD, edits)
            self.assertEqual(caught.exception.name, name)

    def test_an_error_changes_nothing(self):
        edits = [("no car", "bus"), ("no car", "bus")]
        with self.assertRaises(NoCar):
            changed(YARD, edits)
        self.assertEqual(edits, [("no car", "bus"), ("no car", "bus")])
        self.assertEqual(YARD[1][0], ("bus", "a", 4, 6))

    def test_edits_between(self):
        one = ((("a", "b", 1), ("a", "c", 1), ("feed", "a", 1)), (("bus", "a", 1, 1), ("car", "a", 1, 1), ("van", "a", 1, 1)))
        other = ((("a", "c", 2), ("b", "a", 0), ("feed", "a", 1)), (("a", "a", 1, 1), ("car", "a", 1, 2), ("van", "a", 1, 1)))
        edits = [("no cable", "a", "b"), ("cable", "a", "c", 2), ("cable", "b", "a", 0),
                 ("car", "a", "a", 1, 1), ("no car", "bus"), ("car", "car", "a", 1, 2)]
        self.assertEqual(edits_between(one, other), edits)
        self.assertEqual(edits_between(one, one), [])
        self.assertEqual(edits_between(EMPTY, EMPTY), [])
        self.assertEqual(edits_between(EMPTY, YARD), [("cable",) + row for row in YARD[0]] + [("car",) + row for row in YARD[1]])

    def test_edits_between_lead_there_and_back(self):
        yards = some_yards(3, 20)
        for one, other in itertools.product(yards, yards):
            edits = edits_between(one, other)
            self.assertIsInstance(edits, list)
            self.assertTrue(all(is_edit(edit) for edit in edits))
            self.assertEqual(changed(one, edits), other)
            self.assertEqual(changed(other, edits_between(other, one)), one)
            unlike = {row[:2] for row in set(one[0]) ^ set(other[0])}, {row[0] for row in set(one[1]) ^ set(other[1])}
            self.assertEqual(len(edits), len(unlike[0]) + len(unlike[1]))
            places = [(0, edit[1:3]) if "cable" in edit[0] else (1, edit[1:2]) for edit in edits]
            self.assertEqual(places, sorted(places))

    def test_a_new_list_each_time(self):
        edits_between(YARD, EMPTY).append(1)
        self.assertEqual(len(edits_between(YARD, EMPTY)), 4)

    def test_long_rows(self):
        chance = random.Random(5)
        caps, cars, edits = {}, {}, []
        for _ in range(500):
            ends, name = tuple(chance.sample("abcd", 2)), chance.choice("xyz")
            if chance.random() < 0.5:
                caps[ends] = chance.randint(0, 3)
                edits.append(("cable",) + ends + (caps[ends],))
            elif ends in caps:
                del caps[ends]
                edits.append(("no cable",) + ends)
            if chance.random() < 0.5:
                cars[name] = (name, "a", chance.randint(1, 3), 0)
                edits.append(("car",) + cars[name])
            elif name in cars:
                del cars[name]
                edits.append(("no car", name))
            yard = (tuple(sorted(ends + (cap,) for ends, cap in caps.items())), tuple(sorted(cars.values())))
            self.assertEqual(changed(EMPTY, edits), yard)


if __name__ == "__main__":
    unittest.main()
