"""[21], [22], [5]: lines and stairs."""
import itertools
import random
import unittest

from nightstairs.forms import is_stairs
from nightstairs.reach import is_reach_paper, reach
from nightstairs.stairs import is_lines, lines, pairs_of, stairs, stairs_of
from tests import brute
from tests.brute import EMPTY, ODD, YARD, car_lots_of, cuts_of, great_yard, reach_in, some_yards, spoiled, steps_in

GREAT = 10 ** 12
EVERY, VAN, NONE = (("bus", "van"), ("a", "b")), (("van",), ()), ((), ())


def lines_form(yard, thing, known):
    """The definition of LINES, at all hours that can differ."""
    if type(thing) is not tuple or not thing or not all(is_reach_paper(yard, paper) for paper in thing):
        return False
    if not all(set(behind[0]) < set(ahead[0]) for ahead, behind in zip(thing, thing[1:])):
        return False
    pairs = [(brute.needs_out(yard, lot), brute.worth(yard, cut, lot)) for lot, cut in thing]
    hours = [*range(sum(car[3] for car in yard[1]) + 3), 10 ** 9]
    return all(min(base + h * rise for base, rise in pairs) == brute.reach(yard, h, known) for h in hours)


def chain(cars):
    """A yard whose cars need twice as many hours each: as many lines as there can be."""
    return (), tuple(("c%02d" % at, "feed", 1, 2 ** at) for at in range(cars))


class Lines(unittest.TestCase):
    def test_small_yards(self):
        counts = set()
        for yard in some_yards(1, 80):
            told = lines(yard)
            self.assertTrue(lines_form(yard, told, brute.limits(yard)), (yard, told))
            self.assertLessEqual(len(told), len(yard[1]) + 1)
            self.assertIs(is_lines(yard, told), True)
            counts.add(len(told))
        self.assertEqual(counts, {1, 2, 3, 4, 5})

    def test_edges(self):
        self.assertEqual(lines(EMPTY), (NONE,))
        for yard in (((), (("a", "feed", 1, 0),)), ((), (("a", "k", 1, 5),)), ((("feed", "k", 0),), (("a", "k", 1, 5), ("b", "k", 1, 0)))):
            told = lines(yard)
            self.assertEqual(len(told), 1)
            self.assertIs(is_lines(yard, told), True)
            self.assertEqual(stairs(yard), ())

    def test_as_many_lines_as_there_can_be(self):
        for cars in (1, 2, 5, 24):
            yard = chain(cars)
            told = lines(yard)
            self.assertEqual(pairs_of(yard, told), tuple((2 ** at - 1, cars - at) for at in range(cars + 1)))
            self.assertEqual([len(lot) for lot, _ in told], list(range(cars, -1, -1)))
            self.assertIs(is_lines(yard, told), True)
            runs = ((cars, 1),) + tuple((cars - at, 2 ** (at - 1)) for at in range(1, cars))
            self.assertEqual(stairs(yard), runs)

    def test_great_yards(self):
        for seed in range(10):
            yard = great_yard(seed)
            told = lines(yard)
            self.assertLessEqual(len(told), 25)
            self.assertTrue(all(set(behind[0]) < set(ahead[0]) for ahead, behind in zip(told, told[1:])))
            self.assertIs(is_lines(yard, told), True)
            runs = stairs(yard)
            self.assertTrue(is_stairs(runs))
            ends, hour = [], 0
            for _, times in runs:
                hour += times
                ends.append(hour)
            for h in sorted({max(0, end + more) for end in ends[:12] + [10 ** 15 - 2] for more in (-1, 0, 1)}):
                self.assertEqual(min(base + h * rise for base, rise in pairs_of(yard, told)), reach(yard, h))
                self.assertEqual(reach_in(runs, h), reach(yard, h))

    def test_is_lines(self):
        for thing in ((EVERY, VAN, NONE), (EVERY, NONE)):
            self.assertIs(is_lines(YARD, thing), True)
        for thing in ((), (EVERY,), (NONE,), (VAN,), (EVERY, VAN), (VAN, NONE), (NONE, EVERY), (EVERY, NONE, VAN), (EVERY, EVERY, NONE),
                      (EVERY, NONE, NONE), (EVERY, ((), ("a",))), ((("bus", "van"), ()), NONE), [EVERY, NONE], (EVERY, list(NONE)),
                      (EVERY, (("bus",), ()), VAN, NONE), (EVERY, (("cart",), ()), NONE), EVERY, None):
            self.assertIs(is_lines(YARD, thing), False, thing)
        self.assertIs(is_lines(YARD, (EVERY, (("van",), ("b",)), NONE)), True)
        self.assertIs(is_lines(YARD, (EVERY, (("van",), ("a", "b")), NONE)), True)

    def test_lots_that_do_not_lie_in_one_another(self):
        yard = ((), (("a", "feed", 1, 1), ("b", "feed", 1, 1), ("c", "feed", 1, 1)))
        every, ab, c, b = ((lot, ()) for lot in (("a", "b", "c"), ("a", "b"), ("c",), ("b",)))
        self.assertIs(is_lines(yard, (every, ab, b, NONE)), True)
        self.assertIs(is_lines(yard, (every, ab, c, NONE)), False)

    def test_lines_that_begin_above_nothing(self):
        yard = ((), (("a", "feed", 1, 3), ("u", "k", 1, 5)))
        first, last = (("a", "u"), ("k",)), (("u",), ("k",))
        self.assertIs(is_lines(yard, (first, last)), True)
        # These rise as the reach does, but from 5 on.
        self.assertIs(is_lines(yard, ((("a",), ()), NONE)), False)
        self.assertIs(is_lines(yard, (first, NONE)), False)

    def test_is_lines_of_any_value(self):
        for yard in (YARD, EMPTY, chain(2)):
            known, told = brute.limits(yard), lines(yard)
            for thing in [told, *spoiled(told), *ODD]:
                self.assertIs(is_lines(yard, thing), bool(lines_form(yard, thing, known)), thing)

    def test_is_lines_of_all_rows_of_papers(self):
        answers = set()
        for yard in some_yards(2, 6, cars=2, cables=3, knots=2):
            known = brute.limits(yard)
            papers = [(lot, cut) for lot in car_lots_of(yard) for cut in cuts_of(yard)]
            for many in (1, 2, 3):
                for thing in itertools.permutations(papers, many):
                    meant = lines_form(yard, thing, known)
                    self.assertIs(is_lines(yard, thing), meant)
                    answers.add((many, meant))
        self.assertGreaterEqual(len(answers), 5)

    def test_pairs_of(self):
        self.assertEqual(pairs_of(YARD, [EVERY, NONE, VAN, NONE]), ((0, 5), (11, 0), (6, 2), (11, 0)))
        self.assertEqual(pairs_of(YARD, ()), ())
        for yard in some_yards(3, 20, cars=3, knots=2):
            papers = [(lot, cut) for lot in car_lots_of(yard) for cut in cuts_of(yard)]
            pairs = tuple((brute.needs_out(yard, lot), brute.worth(yard, cut, lot)) for lot, cut in papers)
            self.assertEqual([pairs_of(yard, papers), pairs_of(yard, tuple(papers))], [pairs, pairs])


class Stairs(unittest.TestCase):
    def test_stairs_of_small_yards(self):
        for yard in some_yards(4, 80):
            told = stairs(yard)
            self.assertTrue(is_stairs(told))
            self.assertEqual(told, brute.stairs(yard))

    def test_stairs_of_all_pairs(self):
        chance = random.Random(5)
        for _ in range(400):
            pairs = [(0, chance.randint(0, 9)), (chance.randint(0, 40), 0)]
            pairs += [(chance.randint(0, 40), chance.randint(0, 9)) for _ in range(chance.randint(0, 6))]
            pairs += chance.sample(pairs, chance.randint(0, 2))
            least = [min(base + h * rise for base, rise in pairs) for h in range(60)]
            told = stairs_of(pairs)
            self.assertTrue(is_stairs(told))
            self.assertEqual(steps_in(told, 59), [behind - ahead for ahead, behind in zip(least, least[1:])])
            shuffled = chance.sample(pairs, len(pairs))
            self.assertEqual(stairs_of(tuple(shuffled)), told)
            self.assertEqual(stairs_of(shuffled + [(100, 100), (0, 50)]), told)

    def test_edges(self):
        self.assertEqual(stairs_of([(0, 0)]), ())
        self.assertEqual(stairs_of([(0, 0), (0, 9), (9, 0)]), ())
        self.assertEqual(stairs_of([(0, 3), (7, 0)]), ((3, 2), (1, 1)))
        self.assertEqual(stairs_of([(0, 3), (6, 0)]), ((3, 2),))
        self.assertEqual(stairs_of([(0, 3), (2, 0)]), ((2, 1),))
        self.assertEqual(stairs_of([(0, 1), (0, 3), (5, 0), (4, 1)]), ((1, 5),))
        self.assertEqual(stairs_of(((0, 4), (1, 3), (3, 2), (6, 1), (10, 0))), ((4, 1), (3, 1), (2, 1), (1, 1)))
        self.assertEqual([stairs(EMPTY), stairs(YARD)], [(), ((5, 2), (1, 1))])

    def test_great_numbers(self):
        self.assertEqual(stairs_of([(0, 1), (10 ** 40, 0)]), ((1, 10 ** 40),))
        self.assertEqual(stairs_of([(0, 3), (10 ** 40, 0)]), ((3, (10 ** 40 - 1) // 3), (1, 1)))
        self.assertEqual(stairs_of([(GREAT, 0), (0, GREAT)]), ((GREAT, 1),))
        chance = random.Random(6)
        for _ in range(100):
            pairs = [(0, chance.randint(1, GREAT)), (chance.randint(1, GREAT ** 2), 0)]
            pairs += [(chance.randint(0, GREAT ** 2), chance.randint(0, GREAT)) for _ in range(20)]
            told = stairs_of(pairs)
            self.assertTrue(is_stairs(told))
            hour = 0
            for _, times in told:
                hour += times
                for h in (hour - 1, hour, hour + 1, hour - times // 2):
                    self.assertEqual(reach_in(told, h), min(base + h * rise for base, rise in pairs))

    def test_steps_add_up_to_the_reach(self):
        for yard in some_yards(7, 40):
            told = stairs(yard)
            for h in (0, 1, 2, 5, 20, 10 ** 14):
                self.assertEqual(reach_in(told, h), reach(yard, h))

    def test_equal_results_each_time(self):
        for yard in some_yards(8, 20):
            first = (lines(yard), stairs(yard))
            lines(YARD)
            self.assertEqual((lines(yard), stairs(yard)), first)


if __name__ == "__main__":
    unittest.main()
