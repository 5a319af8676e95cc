"""[43]: what the house writes."""
import random
import unittest

from nightstairs.cells import disk_behind, edit_steps, first_disk, hour_steps, is_disk, yard_now
from nightstairs.edits import changed
from nightstairs.errors import NoCable, NoCar
from nightstairs.forms import is_yard
from nightstairs.orders import order_for
from tests.brute import EMPTY, ODD, YARD, great_yard, some_yards, spoiled

GREAT = 10 ** 12
PAIR = ((), (("bus", "feed", 3, 4), ("van", "feed", 2, 3)))
DISK = ((PAIR, 2), (4, 9, (("bus", 3), ("van", 1))))


def told_disk(thing):
    """Whether it is a DISK, told another way."""
    try:
        (yard, closed), (number, supply, rows) = thing
        if any(type(row) is not tuple for row in (thing, *thing, rows, *rows)) or any(len(row) != 2 for row in rows):
            return False
        names = [name for name, _ in rows]
        numbers = [closed, number, supply] + [amount for _, amount in rows]
        if any(type(one) is not int for one in numbers) or closed < -1 or number < -1 or supply < 0 or min([1] + numbers[3:]) < 1:
            return False
        if not all(is_yard(((), ((name, "k", 1, 1),))) for name in names):
            return False
        return is_yard(yard) and names == sorted(set(names))
    except (TypeError, ValueError):
        return False


class IsDisk(unittest.TestCase):
    def test_told_ones(self):
        for thing in (DISK, first_disk(PAIR), first_disk(EMPTY), ((EMPTY, -1), (-1, 0, ())), ((EMPTY, 10 ** 39), (10 ** 39, 10 ** 39, (("a", 10 ** 39),)))):
            self.assertIs(is_disk(thing), True)
        # A car of the order may have gone, and the number of the order may be closed.
        self.assertIs(is_disk(((EMPTY, 9), (4, 0, (("bus", 3),)))), True)

    def test_bounds(self):
        for closed, number, supply, told in ((-1, -1, 0, True), (-2, 0, 0, False), (0, -2, 0, False), (0, 0, -1, False), (True, 0, 0, False), (0, False, 0, False),
                                             (0, 0, True, False), (0, 0, None, False), ("0", 0, 0, False), (0, None, 0, False)):
            self.assertIs(is_disk(((PAIR, closed), (number, supply, ()))), told, (closed, number, supply))

    def test_rows_of_the_order(self):
        for rows in ((("van", 1), ("bus", 1)), (("bus", 1), ("bus", 1)), (("bus", 1), ("bus", 2)), (("bus", 0),), (("bus", True),), (("bus", -1),), (("Bus", 1),),
                     (("", 1),), ((1, 1),), [("bus", 1)], (["bus", 1],), ("bus", 1), (("bus",),), (("bus", 1, 1),), {"bus": 1}, None, True, ((("bus",), 1),)):
            self.assertIs(is_disk(((PAIR, 0), (0, 9, rows))), False, rows)
        self.assertIs(is_disk(((PAIR, 0), (0, 0, (("bus", 9), ("cart", 9))))), True)

    def test_any_values(self):
        for disk in (DISK, first_disk(PAIR)):
            for thing in spoiled(disk):
                self.assertIs(is_disk(thing), told_disk(thing), thing)
        for thing in ODD:
            for other in (thing, (thing, DISK[1]), (DISK[0], thing), ((thing, 0), DISK[1]), [*DISK], DISK + ((),), DISK[:1], ((PAIR, 0, 0), DISK[1])):
                self.assertIs(is_disk(other), told_disk(other), other)


class Disks(unittest.TestCase):
    def test_first_disk(self):
        for yard in (PAIR, EMPTY, YARD, great_yard(1)):
            self.assertEqual(first_disk(yard), ((yard, -1), (-1, 0, ())))
            self.assertEqual(yard_now(first_disk(yard), {}), yard)

    def test_disk_behind(self):
        goals, order = (YARD, 7), (8, 1, (("van", 1),))
        self.assertEqual([disk_behind(DISK, ("goals", goals)), disk_behind(DISK, ("order", order)), disk_behind(DISK, ("send", "bus", 5, 1))],
                         [(goals, DISK[1]), (DISK[0], order), DISK])
        self.assertIs(is_disk(disk_behind(disk_behind(DISK, ("goals", goals)), ("order", order))), True)

    def test_yard_now(self):
        self.assertEqual([yard_now(DISK, meters)[1] for meters in ({}, {"bus": 4}, {"bus": 5, "van": 1}, {"cart": 9, "van": 3, "bus": 0}, {"van": 10 ** 30})],
                         [PAIR[1], (("bus", "feed", 3, 0), PAIR[1][1]), (("bus", "feed", 3, 0), ("van", "feed", 2, 2)), (PAIR[1][0], ("van", "feed", 2, 0)),
                          (PAIR[1][0], ("van", "feed", 2, 0))])
        self.assertEqual(yard_now(((YARD, 3), DISK[1]), {})[0], YARD[0])


class HourSteps(unittest.TestCase):
    def test_numbers_that_are_closed(self):
        for number in (0, 1, 2):
            self.assertEqual(hour_steps(DISK, {}, number, 9), ())
        # Also if it is that of the order.
        self.assertEqual([hour_steps(((PAIR, 4), DISK[1]), {}, 4, 9), hour_steps(((PAIR, 9), DISK[1]), {}, 9, 9)], [(), ()])

    def test_the_number_of_the_order(self):
        for supply in (0, 1, 9, GREAT):
            for meters in ({}, {"bus": 3}, {"bus": 9, "van": 9}):
                self.assertEqual(hour_steps(DISK, meters, 4, supply), (("send", "bus", 4, 3), ("send", "van", 4, 1)))
        self.assertEqual(hour_steps(((PAIR, 2), (4, 0, ())), {}, 4, 9), ())

    def test_a_greater_number(self):
        for yard in [PAIR, YARD, EMPTY, *some_yards(1, 15)]:
            chance = random.Random(2)
            for number in (5, 6, 10 ** 11):
                meters = {car[0]: chance.randint(0, 4) for car in yard[1]}
                supply = chance.randint(0, 7)
                disk = ((yard, 2), DISK[1])
                amounts = order_for(yard_now(disk, meters), supply)
                rows = tuple((name, amounts[name]) for name in sorted(amounts))
                told = (("order", (number, supply, rows)),) + tuple(("send", name, number, amount) for name, amount in rows)
                self.assertEqual(hour_steps(disk, meters, number, supply), told)
                self.assertIs(is_disk(disk_behind(disk, told[0])), True)
        self.assertEqual(hour_steps(first_disk(PAIR), {}, 0, 0), (("order", (0, 0, ())),))
        self.assertEqual(hour_steps(first_disk(PAIR), {"bus": 4, "van": 9}, 7, 3), (("order", (7, 3, ())),))

    def test_needs_are_what_the_meters_lack(self):
        self.assertEqual(hour_steps(first_disk(PAIR), {"bus": 3}, 0, 9), (("order", (0, 9, (("bus", 1), ("van", 2)))), ("send", "bus", 0, 1), ("send", "van", 0, 2)))


class EditSteps(unittest.TestCase):
    def test_needs_and_meters_added(self):
        self.assertEqual(edit_steps(DISK, {"bus": 3, "cart": 7}, [("car", "cart", "feed", 1, 2), ("cable", "feed", "k", 3)]),
                         (("goals", (((("feed", "k", 3),), (("bus", "feed", 3, 4), ("cart", "feed", 1, 9), ("van", "feed", 2, 3))), 4)),))
        self.assertEqual(edit_steps(DISK, {"bus": 9, "van": 1}, ()), (("goals", (((), (("bus", "feed", 3, 9), ("van", "feed", 2, 3))), 4)),))
        self.assertEqual(edit_steps(DISK, {"bus": 9}, [("car", "bus", "feed", 1, 1)])[0][1][0][1][0], ("bus", "feed", 1, 10))
        self.assertEqual(edit_steps(DISK, {"bus": 3}, [("no car", "bus")])[0][1][0][1], (("van", "feed", 2, 3),))

    def test_closed(self):
        for closed, number, told in ((-1, -1, -1), (2, 4, 4), (5, 4, 5), (4, 4, 4), (-1, 0, 0), (3, -1, 3)):
            self.assertEqual(edit_steps(((PAIR, closed), (number, 0, ())), {}, ())[0][1][1], told)

    def test_the_yard_is_that_of_now_changed(self):
        edits = [("car", "bus", "far", 2, 5), ("no car", "van"), ("car", "van", "k", 1, 1), ("cable", "feed", "k", 1), ("no cable", "feed", "k")]
        for meters in ({}, {"bus": 2, "van": 9}):
            step = edit_steps(DISK, meters, edits)[0]
            later = disk_behind(DISK, step)
            self.assertIs(is_disk(later), True)
            self.assertEqual(yard_now(later, meters), changed(yard_now(DISK, meters), edits))
            self.assertEqual(later[1], DISK[1])

    def test_edits_that_cannot_be_made(self):
        for edits in ([("no car", "cart")], [("no car", "bus"), ("no car", "bus")], ((("car", "cart", "feed", 1, 1)), ("no car", "tram"))):
            with self.assertRaises(NoCar):
                edit_steps(DISK, {"cart": 3}, edits)
        with self.assertRaises(NoCable) as held:
            edit_steps(DISK, {}, [("no car", "bus"), ("no cable", "feed", "k"), ("no car", "bus")])
        self.assertEqual((held.exception.start, held.exception.end), ("feed", "k"))


if __name__ == "__main__":
    unittest.main()
