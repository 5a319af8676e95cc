"""[40]: parts."""
import random
import unittest

from nightstairs.errors import NoPart
from nightstairs.forms import is_yard
from nightstairs.parts import above_of, charged_part, flat_yard, is_part, part_in, parts_in, without_part
from nightstairs.stairs import stairs
from tests import brute, brute_parts
from tests.brute import EMPTY, ODD, great_yard, spoiled
from tests.brute_parts import HALL, SHED, some_part, some_parts

DEEP = ("a", 1, EMPTY, (("b", 2, EMPTY, (("c", 3, EMPTY, (("d", 4, EMPTY, (("e", 5, EMPTY, (("f", 6, EMPTY, ()),)),)),)),)),))
WIDE = ("m", 9, ((("far", "near", 2), ("feed", "far", 3)), (("car", "near", 1, 4),)), (
    ("a", 1, ((), (("x", "alone", 1, 1),)), (("z", 2, EMPTY, ()),)),
    ("b", 3, ((("here", "there", 4),), (("y", "feed", 2, 5),)), (("c", 0, ((), (("w", "feed", 1, 1),)), ()), ("d", 7, EMPTY, ()))),
))


def twelve():
    """Twelve PARTS, six within one another, of great yards."""
    cars = iter("%s%s" % (one, other) for one in "abcdefghijkl" for other in "abcdefghijklmnopqrstuvwx")

    def made(at, below):
        cables, rows = great_yard(at)
        return "p%02d" % at, 10 ** 12 - at, (cables, tuple(sorted((next(cars),) + car[1:] for car in rows))), below
    chain = ()
    for at in range(11, 6, -1):
        chain = (made(at, chain),)
    return made(0, tuple(made(at, ()) for at in range(1, 7)) + chain)


class IsPart(unittest.TestCase):
    def test_told_ones(self):
        for part in (SHED, HALL, DEEP, WIDE, twelve(), ("a", 0, EMPTY, ()), *some_parts(1, 30)):
            self.assertIs(is_part(part), True, part)

    def test_out_of_order(self):
        a, b = ("a", 1, EMPTY, ()), ("b", 0, EMPTY, ())
        for below, told in (((a, b), True), ((b, a), False), ((a, a), False), ((a,), True), ((), True), ([a, b], False), (a, False), ((a, None), False),
                            ((("a1", 1, EMPTY, ()), ("a2", 0, EMPTY, ())), True), ((("a", 2, EMPTY, ()), ("a", 3, EMPTY, ())), False)):
            self.assertIs(is_part(("top", 1, EMPTY, below)), told, below)

    def test_a_name_twice_at_any_depth(self):
        def within(name, depth):
            part = (name, 1, EMPTY, ())
            for at in range(depth):
                part = ("w%d" % at, 1, EMPTY, (part,))
            return part
        for depth in range(6):
            self.assertIs(is_part(("top", 1, EMPTY, (within("top", depth),))), False)
            self.assertIs(is_part(("top", 1, EMPTY, (within("tip", depth),))), True)
            self.assertIs(is_part(("top", 1, EMPTY, (("a", 1, EMPTY, ()), within("a", depth)))), False)
            self.assertIs(is_part(("top", 1, EMPTY, (("a", 1, EMPTY, ()), within("b", depth)))), True)
        self.assertIs(is_part(("top", 1, EMPTY, (("a", 1, EMPTY, (("c", 1, EMPTY, ()),)), ("b", 1, EMPTY, (("c", 1, EMPTY, ()),))))), False)

    def test_the_name_of_a_car_twice_in_two_yards(self):
        one, other = ((), (("x", "feed", 1, 1),)), ((), (("x", "k", 2, 3), ("y", "feed", 1, 1)))
        for first, second, third, told in ((one, EMPTY, EMPTY, True), (one, other, EMPTY, False), (one, EMPTY, other, False), (EMPTY, one, other, False),
                                           (EMPTY, EMPTY, other, True)):
            self.assertIs(is_part(("a", 1, first, (("b", 1, second, (("c", 1, third, ()),)),))), told)
            self.assertIs(is_part(("a", 1, first, (("b", 1, second, ()), ("c", 1, third, ())))), told)
        # Names of cars, of parts and of knots are no names of one another.
        self.assertIs(is_part(("x", 1, one, (("y", 1, ((("feed", "x", 1),), ()), ()),))), True)

    def test_knots_of_several_yards_may_have_one_name(self):
        yard = ((("feed", "k", 1),), ())
        self.assertIs(is_part(("a", 1, yard, (("b", 1, yard, ()), ("c", 1, yard, ())))), True)

    def test_bounds_are_not_looked_at(self):
        part = ("a", 1, EMPTY, tuple(("b%03d" % at, 10 ** 39, EMPTY, ()) for at in range(900)))
        self.assertIs(is_part(part), True)
        part = ("z", 1, EMPTY, ())
        for at in range(8):
            part = ("a%d" % at, 1, EMPTY, (part,))
        self.assertIs(is_part(part), True)

    def test_any_values(self):
        for part in (HALL, WIDE[:3] + (WIDE[3][:1],)):
            for thing in spoiled(part):
                self.assertIs(is_part(thing), brute_parts.is_part(thing), thing)
        for thing in ODD:
            self.assertIs(is_part(thing), False)
            for at in range(4):
                spoilt = HALL[:at] + (thing,) + HALL[at + 1:]
                self.assertIs(is_part(spoilt), brute_parts.is_part(spoilt), thing)
        for spoilt in (("Hall",) + HALL[1:], ("", ) + HALL[1:], (HALL[0], True) + HALL[2:], (HALL[0], -1) + HALL[2:], HALL[:3], HALL + ((),), list(HALL),
                       HALL[:3] + (list(HALL[3]),), HALL[:3] + (None,), HALL[:2] + (HALL[2][0],) + HALL[3:]):
            self.assertIs(is_part(spoilt), False, spoilt)


class Parts(unittest.TestCase):
    def test_in_their_order(self):
        self.assertEqual([parts_in(WIDE), parts_in(DEEP), parts_in(SHED)], [["m", "a", "z", "b", "c", "d"], list("abcdef"), ["shed"]])
        self.assertEqual(parts_in(twelve()), ["p%02d" % at for at in range(12)])
        for part in some_parts(2, 30, parts=8):
            self.assertEqual(parts_in(part), brute_parts.names_in(part))

    def test_a_new_list_each_time(self):
        parts_in(WIDE).append("q")
        self.assertEqual(parts_in(WIDE), ["m", "a", "z", "b", "c", "d"])

    def test_part_in_and_above_of(self):
        for part in [WIDE, DEEP, SHED, twelve(), *some_parts(3, 20, parts=8)]:
            self.assertEqual([part_in(part, part[0]), above_of(part, part[0])], [part, None])
            for one in brute_parts.all_below(part):
                self.assertEqual(part_in(part, one[0]), one)
                for below in one[3]:
                    self.assertEqual(above_of(part, below[0]), one[0])
        self.assertEqual([above_of(WIDE, name) for name in "mazbcd"], [None, "m", "a", "m", "b", "b"])

    def test_without_part(self):
        self.assertEqual([parts_in(without_part(WIDE, name)) for name in "azbcd"],
                         [["m", "b", "c", "d"], ["m", "a", "b", "c", "d"], ["m", "a", "z"], ["m", "a", "z", "b", "d"], ["m", "a", "z", "b", "c"]])
        for at, name in enumerate("bcdef"):
            self.assertEqual(parts_in(without_part(DEEP, name)), list("abcdef")[:at + 1])
        self.assertEqual(without_part(HALL, "shed"), HALL[:3] + ((),))
        for part in some_parts(4, 20, parts=8):
            for name in parts_in(part)[1:]:
                left = without_part(part, name)
                gone = brute_parts.names_in(part_in(part, name))
                self.assertIs(is_part(left), True)
                self.assertEqual(parts_in(left), [other for other in parts_in(part) if other not in gone])
                for other in parts_in(left):
                    self.assertEqual([part_in(left, other)[:3], above_of(left, other)], [part_in(part, other)[:3], above_of(part, other)])

    def test_no_part(self):
        for part in (SHED, HALL, WIDE, DEEP):
            for name in ("nobody", "bus", "feed", "", "p0", part[0].upper(), part[0] + "x"):
                for function in (part_in, above_of, without_part):
                    with self.assertRaises(NoPart) as held:
                        function(part, name)
                    self.assertIs(held.exception.name, name)
            with self.assertRaises(NoPart) as held:
                without_part(part, part[0])
            self.assertEqual(held.exception.name, part[0])
        for function in (part_in, above_of, without_part):
            with self.assertRaises(NoPart):
                function(without_part(WIDE, "b"), "c")


class FlatYard(unittest.TestCase):
    def test_told_ones(self):
        self.assertEqual(flat_yard(("one", 3, EMPTY, ())), ((("feed", "p0", 3),), ()))
        self.assertEqual(flat_yard(SHED), ((("feed", "p0", 2),), (("van", "p0", 2, 3),)))
        self.assertEqual(flat_yard(WIDE), (
            (("feed", "p0", 9), ("p0", "p0k0", 3), ("p0", "p1", 1), ("p0", "p3", 3), ("p0k0", "p0k1", 2), ("p1", "p2", 2), ("p3", "p4", 0),
             ("p3", "p5", 7), ("p3k0", "p3k1", 4)),
            (("car", "p0k1", 1, 4), ("w", "p4", 1, 1), ("x", "p1k0", 1, 1), ("y", "p3", 2, 5))))
        self.assertEqual(flat_yard(DEEP)[0], (("feed", "p0", 1), ("p0", "p1", 2), ("p1", "p2", 3), ("p2", "p3", 4), ("p3", "p4", 5), ("p4", "p5", 6)))

    def test_more_than_ten_parts_and_knots(self):
        cables = tuple(sorted([("feed", "k%02d" % at, at) for at in range(12)]))
        part = ("a", 1, (cables, ()), tuple(("b%02d" % at, 1, EMPTY, ()) for at in range(11)))
        told = flat_yard(part)
        self.assertIs(is_yard(told), True)
        self.assertIn(("p0", "p0k11", 11), told[0])
        self.assertIn(("p0", "p11", 1), told[0])

    def test_cables_go_both_ways_and_in_rings(self):
        cables = (("a", "b", 1), ("b", "a", 2), ("feed", "b", 3))
        self.assertEqual(flat_yard(("z", 4, (cables, ()), ()))[0], (("feed", "p0", 4), ("p0", "p0k1", 3), ("p0k0", "p0k1", 1), ("p0k1", "p0k0", 2)))

    def test_a_yard_with_the_same_reach_whatever_the_knots_are_called(self):
        for part in some_parts(5, 40, parts=6, cars=1):
            told = flat_yard(part)
            self.assertIs(is_yard(told), True)
            self.assertEqual(stairs(told), stairs(brute_parts.flat(part)))
            self.assertEqual([car[:1] + car[2:] for car in told[1]], [car[:1] + car[2:] for car in brute_parts.flat(part)[1]])

    def test_great_parts(self):
        told = flat_yard(twelve())
        self.assertIs(is_yard(told), True)
        self.assertEqual([len(told[0]), len(told[1])], [12 * 40 + 12, 12 * 24])


class ChargedPart(unittest.TestCase):
    def test_each_car_where_it_stands(self):
        told = charged_part(WIDE, {"w": 1, "y": 2, "car": 4})
        self.assertEqual([part_in(told, name)[2][1] for name in "mabc"],
                         [(("car", "near", 1, 0),), (("x", "alone", 1, 1),), (("y", "feed", 2, 3),), (("w", "feed", 1, 0),)])
        self.assertEqual([charged_part(WIDE, {}), parts_in(told), is_part(told)], [WIDE, parts_in(WIDE), True])

    def test_the_flat_yard_charged(self):
        chance = random.Random(6)
        for _ in range(30):
            part = some_part(chance, parts=5)
            amounts = {car[0]: chance.randint(1, car[3]) for car in flat_yard(part)[1] if car[3] and chance.random() < 0.7}
            before = repr((part, amounts))
            self.assertEqual(flat_yard(charged_part(part, amounts)), brute.less(flat_yard(part), amounts))
            self.assertEqual(charged_part(part, amounts), brute_parts.less(part, amounts))
            self.assertEqual(repr((part, amounts)), before)


if __name__ == "__main__":
    unittest.main()
