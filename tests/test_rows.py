"""[23], [24], [8]: rows of steps, and what is taken of them."""
import itertools
import random
import unittest

from nightstairs.forms import is_stairs
from nightstairs.rows import added, behind, capped, could_in, ends_of, first_unlike, hours_of, reach_in, step_in, taken, whole_of
from nightstairs.stairs import stairs
from tests import brute
from tests.brute import great_stairs, some_night, some_stairs, some_yards, steps_in, steps_to_stairs

GREAT = 10 ** 15
ROW = ((5, 2), (1, 1))
LONG = ((7, GREAT), (2, 5))


def sums(steps):
    """The sums of the first h of these, for each h."""
    return list(itertools.accumulate(steps, initial=0))


def stairs_with(reaches):
    """The STAIRS with these REACHES."""
    return steps_to_stairs(later - ahead for ahead, later in zip(reaches, reaches[1:]))


def rows_of(seed, many, **sizes):
    chance = random.Random(seed)
    return [some_stairs(chance, **sizes) for _ in range(many)]


def bends(row):
    """Hours at each bend and beside it, and far beyond."""
    ends, hour = {0, 1, GREAT, 10 ** 30}, 0
    for _, times in row:
        hour += times
        ends |= {hour - 1, hour, hour + 1}
    return sorted(ends)


class Told(unittest.TestCase):
    def test_reaches_and_steps(self):
        for row in rows_of(1, 100) + [(), ((3, 1),), ROW]:
            steps = steps_in(row, 20)
            self.assertEqual([reach_in(row, h) for h in range(21)], sums(steps))
            self.assertEqual([step_in(row, h) for h in range(1, 21)], steps)
            self.assertEqual([whole_of(row), hours_of(row)], [sum(steps), len([step for step in steps if step])])
            falls = [h for h in range(1, 20) if steps[h - 1] > steps[h]]
            self.assertEqual(ends_of(row), tuple(falls))

    def test_nothing(self):
        self.assertEqual([reach_in((), 0), reach_in((), GREAT), step_in((), 1), step_in((), GREAT)], [0, 0, 0, 0])
        self.assertEqual([whole_of(()), hours_of(()), ends_of(())], [0, 0, ()])
        self.assertEqual([reach_in(ROW, 0), reach_in(((3, 1),), 0)], [0, 0])

    def test_many_hours(self):
        self.assertEqual([reach_in(LONG, h) for h in (1, GREAT - 1, GREAT, GREAT + 1, GREAT + 5, GREAT + 6, 10 ** 30)],
                         [7, 7 * GREAT - 7, 7 * GREAT, 7 * GREAT + 2, 7 * GREAT + 10, 7 * GREAT + 10, 7 * GREAT + 10])
        self.assertEqual([step_in(LONG, h) for h in (1, GREAT, GREAT + 1, GREAT + 5, GREAT + 6)], [7, 7, 2, 2, 0])
        self.assertEqual([whole_of(LONG), hours_of(LONG), ends_of(LONG)], [7 * GREAT + 10, GREAT + 5, (GREAT, GREAT + 5)])

    def test_bends_of_many_runs(self):
        chance = random.Random(2)
        for _ in range(30):
            row = great_stairs(chance)
            for h in bends(row):
                self.assertEqual(reach_in(row, h), brute.reach_in(row, h))
                if h:
                    self.assertEqual(step_in(row, h), reach_in(row, h) - reach_in(row, h - 1))
            self.assertEqual([ends_of(row)[-1], reach_in(row, ends_of(row)[-1])], [hours_of(row), whole_of(row)])
            self.assertEqual(len(ends_of(row)), len(row))


class Added(unittest.TestCase):
    def test_small_rows(self):
        chance = random.Random(3)
        for _ in range(200):
            rows = [some_stairs(chance) for _ in range(chance.randint(0, 4))]
            told = [sum(steps) for steps in zip(*[steps_in(row, 20) for row in rows], [0] * 20)]
            for given in (rows, tuple(rows), rows[::-1]):
                self.assertEqual(added(given), steps_to_stairs(told))

    def test_edges(self):
        self.assertEqual([added([]), added(()), added([()]), added(((), ())), added([ROW]), added((ROW, ()))], [(), (), (), (), ROW, ROW])
        self.assertEqual(added([ROW, ROW]), ((10, 2), (2, 1)))
        self.assertEqual(added([((2, 2), (1, 2)), ((3, 2), (1, 2))]), ((5, 2), (2, 2)))
        self.assertEqual(added([((3, 1), (1, 2)), ((2, 3),)]), ((5, 1), (3, 2)))
        self.assertEqual(added([((4, GREAT),), ((3, 1),)]), ((7, 1), (4, GREAT - 1)))

    def test_great_rows(self):
        chance = random.Random(4)
        for _ in range(20):
            rows = [great_stairs(chance, runs=8) for _ in range(5)]
            told = added(rows)
            self.assertTrue(is_stairs(told))
            for h in bends(told) + [h for row in rows for h in bends(row)]:
                self.assertEqual(reach_in(told, h), sum(brute.reach_in(row, h) for row in rows))


class Capped(unittest.TestCase):
    def test_small_rows(self):
        for row in rows_of(5, 100) + [()]:
            for cap in range(11):
                reaches = [min(told, h * cap) for h, told in enumerate(sums(steps_in(row, 200)))]
                self.assertEqual(capped(row, cap), stairs_with(reaches))

    def test_edges(self):
        self.assertEqual([capped(ROW, cap) for cap in (0, 1, 2, 3, 4, 5, 6)],
                         [(), ((1, 11),), ((2, 5), (1, 1)), ((3, 3), (2, 1)), ((4, 2), (3, 1)), ROW, ROW])
        self.assertEqual(capped(((4, 2), (3, 1)), 3), ((3, 3), (2, 1)))
        self.assertEqual([capped((), 0), capped((), 5), capped(((6, 2),), 4), capped(((6, 2),), 12)], [(), (), ((4, 3),), ((6, 2),)])

    def test_great_rows(self):
        chance = random.Random(6)
        for _ in range(30):
            row = great_stairs(chance, runs=8)
            steps = [step for step, _ in row]
            for cap in [0, 1, steps[0] + 1] + [step + more for step in steps for more in (-1, 0, 1)]:
                told = capped(row, cap)
                self.assertTrue(is_stairs(told))
                for h in bends(row) + bends(told):
                    self.assertEqual(brute.reach_in(told, h), min(brute.reach_in(row, h), h * cap))


class FirstUnlike(unittest.TestCase):
    def test_small_rows(self):
        chance = random.Random(7)
        for _ in range(500):
            one = some_stairs(chance, step=4)
            other = chance.choice([one, one[:-1], some_stairs(chance, step=4), (one[:1] + ((1, 3),)) if one and one[0][0] > 1 else one])
            pairs = zip(sums(steps_in(one, 40)), sums(steps_in(other, 40)))
            parting = [h for h, (told, others) in enumerate(pairs) if told != others]
            self.assertEqual(first_unlike(one, other), parting[0] if parting else None)
            self.assertEqual(first_unlike(other, one), first_unlike(one, other))

    def test_edges(self):
        self.assertEqual([first_unlike((), ()), first_unlike(LONG, LONG), first_unlike((), ROW), first_unlike(ROW, ())], [None, None, 1, 1])
        late = (((7, GREAT), (2, 6)), ((7, GREAT),), ((7, GREAT), (2, 5), (1, 1)), ((7, GREAT), (3, 5)), ((7, GREAT - 1), (2, 6)),
                ((7, GREAT - 1), (6, 1), (2, 5)), ((7, GREAT + 1), (2, 5)))
        parting = [GREAT + 6, GREAT + 1, GREAT + 6, GREAT + 1, GREAT, GREAT, GREAT + 1]
        self.assertEqual([first_unlike(LONG, row) for row in late], parting)
        self.assertEqual([first_unlike(row, LONG) for row in late], parting)


def taken_by_reach(row, x, hours=40):
    """What is taken, as the document has it of the REACHES."""
    reaches = sums(steps_in(row, hours + 1))
    return stairs_with([min(now, later - x) for now, later in zip(reaches, reaches[1:])])


class Taken(unittest.TestCase):
    def test_small_rows(self):
        for row in rows_of(8, 200) + [()]:
            for x in range(steps_in(row, 1)[0] + 1):
                told = taken(row, x)
                self.assertEqual(told, taken_by_reach(row, x))
                self.assertTrue(is_stairs(told))
                self.assertEqual(whole_of(told), whole_of(row) - x)

    def test_edges(self):
        self.assertEqual([taken((), 0), taken(ROW, 0), taken(ROW, 5), taken(ROW, 1), taken(ROW, 2)],
                         [(), ROW, ((5, 1), (1, 1)), ((5, 2),), ((5, 1), (4, 1))])
        self.assertEqual([taken(((4, 1),), 4), taken(((4, 1),), 3), taken(((4, 3),), 4), taken(((4, 3),), 1)],
                         [(), ((1, 1),), ((4, 2),), ((4, 2), (3, 1))])
        # The one that takes the place of two steps joins the run behind it, which is none of these if all is met just so.
        self.assertEqual(taken(((6, 1), (4, 2), (1, 1)), 6), ((4, 2), (1, 1)))
        self.assertEqual(taken(((6, 2), (4, 1), (1, 1)), 6), ((6, 1), (4, 1), (1, 1)))
        self.assertEqual(taken(((6, 1), (4, 1), (3, 1)), 5), ((5, 1), (3, 1)))
        self.assertEqual(taken(((6, 1), (4, 1), (1, 1)), 3), ((6, 1), (2, 1)))
        self.assertEqual(taken(((6, 1), (4, 1), (1, 1)), 4), ((6, 1), (1, 1)))

    def test_many_hours(self):
        self.assertEqual([taken(LONG, 7), taken(LONG, 4), taken(LONG, 2), taken(LONG, 1)],
                         [((7, GREAT - 1), (2, 5)), ((7, GREAT - 1), (5, 1), (2, 4)), ((7, GREAT), (2, 4)), ((7, GREAT), (2, 4), (1, 1))])
        chance = random.Random(9)
        for _ in range(30):
            row = great_stairs(chance, runs=8)
            for x in [step + more for step, _ in row for more in (-1, 0, 1) if step + more <= row[0][0]]:
                told = taken(row, x)
                self.assertTrue(is_stairs(told))
                for h in bends(row) + bends(told):
                    self.assertEqual(brute.reach_in(told, h), min(brute.reach_in(row, h), brute.reach_in(row, h + 1) - x))


class Behind(unittest.TestCase):
    def test_hour_by_hour(self):
        chance = random.Random(10)
        for _ in range(200):
            row, night = some_stairs(chance), some_night(chance, hours=6, most=12)
            left, told, charged = row, [0], 0
            for supply in night:
                x = min([supply] + steps_in(left, 1))
                charged += x
                left = taken_by_reach(left, x)
                told.append(charged)
            self.assertEqual([behind(row, night), could_in(row, night)], [left, told])

    def test_edges(self):
        self.assertEqual([behind(ROW, ()), could_in(ROW, ()), behind((), (0, 9)), could_in((), (0, 9))], [ROW, [0], (), [0, 0, 0]])
        self.assertEqual([behind(ROW, (0, 0)), could_in(ROW, (0, 0))], [ROW, [0, 0, 0]])
        self.assertEqual([behind(ROW, (GREAT,) * 4), could_in(ROW, (GREAT,) * 4)], [(), [0, 5, 10, 11, 11]])
        self.assertEqual(could_in(LONG, (10 ** 12, 1, 0)), [0, 7, 8, 8])
        self.assertEqual(behind(LONG, (7,) * 48), ((7, GREAT - 48), (2, 5)))

    def test_the_order_of_the_hours_does_not_matter(self):
        chance = random.Random(11)
        for _ in range(100):
            row, night = some_stairs(chance, runs=5, step=12), some_night(chance, hours=8, most=14)
            others = tuple(chance.sample(night, len(night)))
            self.assertEqual(behind(row, others), behind(row, night))
            self.assertEqual(could_in(row, others)[-1], could_in(row, night)[-1])

    def test_could_in_is_could_of_a_yard(self):
        chance = random.Random(12)
        for yard in some_yards(13, 30, cars=3, knots=2, great=3):
            night = some_night(chance)
            self.assertEqual(tuple(could_in(stairs(yard), night)), brute.could(yard, night))

    def test_a_new_list_each_time(self):
        could_in(ROW, (3,)).append(9)
        self.assertEqual(could_in(ROW, (3,)), [0, 3])


if __name__ == "__main__":
    unittest.main()
