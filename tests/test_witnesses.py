"""[39], [9]: witnesses, against all nights gone through."""
import itertools
import random
import unittest

from nightstairs.errors import TooMany
from nightstairs.unlike import good_begins
from nightstairs.witnesses import is_witness, witness_in
from tests import brute, brute_hard
from tests.brute import EMPTY, ODD, great_yard, spoiled
from tests.test_unlike import FIRSTS, LEAVES, STAND, stand

GREAT = 10 ** 12
BOXES = ((("feed", "out", 5), ("out", "in", 3)), (("bus", "out", 2, 4), ("x", "in", 9, 1), ("y", "in", 9, 2)))
RANKS = ("firsts", BOXES, {"bus": 1, "x": 0, "y": 2})


def begins_of(hard, night, known):
    return set(brute_hard.best(hard, night, known)[1])


def least_witness(hard, most, hours):
    """By going through all of them."""
    known = brute.order_rows(hard[1])
    nights = list(itertools.product(range(most + 1), repeat=hours))
    for supply in range(most + 1):
        begins = {night: begins_of(hard, (supply,) + night, known) for night in nights}
        for one in nights:
            for other in nights:
                if not begins[one] & begins[other]:
                    return supply, one, other
    return None


def is_formed(thing):
    if type(thing) is not tuple or len(thing) != 3 or type(thing[0]) is not int or thing[0] < 0:
        return False
    return all(type(night) is tuple and all(type(supply) is int and supply >= 0 for supply in night) for night in thing[1:])


class IsWitness(unittest.TestCase):
    def test_told_ones(self):
        self.assertIs(is_witness(LEAVES, (1, (2, 0, 0), (0, 1, 1))), True)
        self.assertIs(is_witness(LEAVES, (1, (0, 1, 1), (2, 0, 0))), True)
        self.assertIs(is_witness(LEAVES, (1, (2, 0, 0), (2, 0, 0))), False)
        self.assertIs(is_witness(LEAVES, (2, (2, 0, 0), (0, 1, 1))), False)
        self.assertIs(is_witness(LEAVES, (0, (2, 0, 0), (0, 1, 1))), False)
        self.assertIs(is_witness(RANKS, (3, (0,), (4,))), True)
        self.assertIs(is_witness(RANKS, (3, (4,), (0,))), True)
        self.assertIs(is_witness(RANKS, (2, (0,), (4,))), False)
        self.assertIs(is_witness(RANKS, (2, (0,), (5,))), True)

    def test_nights_of_unlike_lengths(self):
        self.assertIs(is_witness(LEAVES, (1, (2,), (0, 1, 1))), True)
        self.assertIs(is_witness(LEAVES, (1, (2, 0, 0, 0, 9, 9), (0, 1, 1))), True)
        self.assertIs(is_witness(LEAVES, (1, (), (0, 1, 1))), False)
        self.assertIs(is_witness(LEAVES, (1, (), ())), False)
        self.assertIs(is_witness(RANKS, (3, (), (4,))), True)
        self.assertIs(is_witness(RANKS, (3, (0, 0, 0), (4,))), True)

    def test_against_all_plans(self):
        chance = random.Random(1)
        found = 0
        for at in range(60):
            hard = brute_hard.tight_hard(chance, ("leaves", "firsts")[at % 2])
            known = brute.order_rows(hard[1])
            for _ in range(20):
                supply = chance.randint(1, 3)
                one, other = [tuple(chance.choice([0, 1, 2, 3, 9]) for _ in range(chance.randint(0, 2))) for _ in "ab"]
                told = not begins_of(hard, (supply,) + one, known) & begins_of(hard, (supply,) + other, known)
                self.assertIs(is_witness(hard, (supply, one, other)), told)
                found += told
        self.assertGreater(found, 2)

    def test_any_values(self):
        for hard, thing in ((LEAVES, (1, (2, 0, 0), (0, 1, 1))), (RANKS, (3, (0,), (4,)))):
            known = brute.order_rows(hard[1])
            for other in spoiled(thing):
                told = is_formed(other)
                if told:
                    nights = [(min(other[0], 9),) + tuple(min(supply, 9) for supply in night) for night in other[1:]]
                    told = not begins_of(hard, nights[0], known) & begins_of(hard, nights[1], known)
                self.assertIs(is_witness(hard, other), told, other)
        for thing in ODD:
            self.assertIs(is_witness(LEAVES, thing), False)

    def test_none_where_the_firsts_are_none_or_all(self):
        nights = [night for many in range(3) for night in itertools.product(range(4), repeat=many)]
        hard_ones = [("leaves", STAND, {"a": 2, "b": 2}), ("firsts", STAND, {"a": 0, "b": 0}), ("firsts", STAND, {"a": 1, "b": 2}),
                     ("firsts", RANKS[1], {"bus": 0, "x": 0, "y": 0})]
        for hard in hard_ones:
            for supply in range(4):
                begins = [good_begins(hard, (supply,) + night) for night in nights]
                self.assertTrue(all(any(row in other for row in one) for one in begins for other in begins))

    def test_too_many(self):
        yard = stand(2000)
        for hard in (("leaves", yard, {"c00": 1}), ("firsts", yard, {"c00": 1}), ("leaves", great_yard(1), {car[0]: 3 for car in great_yard(1)[1]})):
            for thing in ((0, (), ()), (1, (2, 3), (4,)), (GREAT, (), (GREAT,))):
                with self.assertRaises(TooMany) as held:
                    is_witness(hard, thing)
                self.assertEqual(held.exception.most, 2000)
            for thing in (None, (0, (), None), (0, ()), (-1, (), ()), (True, (), ()), [0, (), ()], (0, (False,), ()), (0, [], ())):
                self.assertIs(is_witness(hard, thing), False)
        self.assertIs(is_witness(("leaves", stand(1999), {"c00": 1}), (1000, (5,), (1999,))), False)


class WitnessIn(unittest.TestCase):
    def test_told_ones(self):
        self.assertEqual([witness_in(LEAVES, 2, 3), witness_in(LEAVES, 2, 2), witness_in(LEAVES, 1, 3), witness_in(RANKS, 4, 1)],
                         [(1, (0, 1, 1), (2, 0, 0)), None, None, (3, (0,), (4,))])
        self.assertEqual([witness_in(FIRSTS, 2, 1), witness_in(FIRSTS, 1, 1), witness_in(RANKS, 3, 1), witness_in(RANKS, 5, 1)],
                         [(1, (0,), (2,)), None, None, (2, (0,), (5,))])

    def test_the_least_of_all(self):
        chance = random.Random(2)
        found = 0
        for at in range(60):
            hard = brute_hard.tight_hard(chance, ("leaves", "firsts")[at % 2])
            for most, hours in ((4, 1), (2, 2)):
                told = least_witness(hard, most, hours)
                self.assertEqual(witness_in(hard, most, hours), told, (hard, most, hours))
                found += told is not None
                if told is not None:
                    self.assertIs(is_witness(hard, told), True)
        self.assertGreater(found, 2)

    def test_the_least_of_the_told_yards(self):
        self.assertEqual(witness_in(LEAVES, 2, 3), least_witness(LEAVES, 2, 3))
        self.assertEqual(witness_in(RANKS, 4, 1), least_witness(RANKS, 4, 1))

    def test_none(self):
        chance = random.Random(3)
        for _ in range(25):
            word, yard, numbers = brute_hard.some_hard(chance, "firsts", great=2, cars=3, knots=2, cables=3)
            for most, hours in ((3, 2), (1, 3)):
                self.assertIsNone(witness_in(("leaves", yard, {name: 2 for name in numbers}), most, hours))
                self.assertIsNone(witness_in(("firsts", yard, {name: 0 for name in numbers}), most, hours))
                self.assertIsNone(witness_in(("firsts", yard, {car[0]: car[3] for car in yard[1]}), most, hours))
        self.assertEqual([witness_in(("leaves", EMPTY, {}), 3, 2), witness_in(("firsts", EMPTY, {}), 0, 0)], [None, None])

    def test_no_hours_and_no_supply(self):
        for hard in (LEAVES, FIRSTS, RANKS):
            self.assertEqual([witness_in(hard, 5, 0), witness_in(hard, 1999, 0), witness_in(hard, 0, 3), witness_in(hard, 0, 47)], [None] * 4)

    def test_too_many_nights(self):
        for most, hours in ((2000, 0), (44, 1), (1, 10), (12, 2), (GREAT, 0), (1, 47), (GREAT, 47)):
            with self.assertRaises(TooMany) as held:
                witness_in(LEAVES, most, hours)
            self.assertEqual(held.exception.most, 2000)
        self.assertEqual([witness_in(FIRSTS, 1999, 0), witness_in(FIRSTS, 43, 1), witness_in(("firsts", EMPTY, {}), 1, 9), witness_in(FIRSTS, 11, 2)],
                         [None, (1, (0,), (2,)), None, (1, (0, 0), (0, 2))])

    def test_too_many_plans(self):
        for yard in (stand(2000), great_yard(2), stand(*[1] * 11), stand(2, 666)):
            for most, hours in ((1, 1), (0, 0), (0, 5)):
                for hard in (("leaves", yard, {car[0]: 1 for car in yard[1]}), ("firsts", yard, {car[0]: 0 for car in yard[1]})):
                    with self.assertRaises(TooMany) as held:
                        witness_in(hard, most, hours)
                    self.assertEqual(held.exception.most, 2000)
        self.assertIsNone(witness_in(("leaves", stand(1999), {"c00": 1}), 3, 1))
        self.assertIsNone(witness_in(("firsts", stand(4, 4, 4, 15), {"c00": 4, "c01": 0, "c02": 0, "c03": 0}), 3, 2))


if __name__ == "__main__":
    unittest.main()
