"""[45], [10]: a house that may be cut at any moment."""
import itertools
import random
import unittest

from nightstairs.cells import disk_behind, edit_steps, first_disk, hour_steps, is_disk, yard_now
from nightstairs.chargers import Charger
from nightstairs.edits import changed
from nightstairs.errors import NoCable, NoCar, PowerCut, Wrong
from nightstairs.house import House
from nightstairs.keeping import is_right
from nightstairs.nights import could_by_all, is_order
from nightstairs.orders import order_for
from nightstairs.yards import car_of, charged
from tests import brute
from tests.brute import EMPTY, ODD, YARD, great_yard, some_yards, spoiled

PAIR = ((), (("bus", "feed", 3, 4), ("van", "feed", 2, 3)))
GREAT = 10 ** 12


def state_of(house):
    """All that can be seen of a house."""
    return house.disk(), house.meters(), house.log(), house.yard()


def cut_at(house, many, call):
    """Do a call in which power fails ahead of the STEP with this index; tell whether it failed."""
    house.fail_after(many)
    try:
        call(house)
    except PowerCut:
        return True
    house.fail_after(10 ** 9)
    return False


def hour(number, supply):
    return lambda house: house.hour(number, supply)


def edit(*edits):
    return lambda house: house.edit(edits)


class Hours(unittest.TestCase):
    def test_at_first(self):
        for yard in (PAIR, EMPTY, YARD, great_yard(1)):
            house = House(yard)
            self.assertEqual(state_of(house), (first_disk(yard), {car[0]: 0 for car in yard[1]}, (), yard))

    def test_steps_one_behind_the_other(self):
        chance = random.Random(1)
        for yard in some_yards(2, 25, cars=3):
            house, disk, meters, log = House(yard), first_disk(yard), {car[0]: 0 for car in yard[1]}, []
            for number in (0, 1, 1, 4, 7):
                supply = chance.randint(0, 7)
                for step in hour_steps(disk, meters, number, supply):
                    disk = disk_behind(disk, step)
                    if step[0] == "send" and all(row[0] < number for row in log if row[1] == step[1]):
                        meters[step[1]] += step[3]
                        log.append((number, step[1], step[3]))
                self.assertEqual(house.hour(number, supply), dict(disk[1][2]))
                self.assertEqual(state_of(house), (disk, meters, tuple(log), yard_now(disk, meters)))

    def test_an_hour_of_the_yard_now_is_a_right_order(self):
        chance = random.Random(3)
        for yard in some_yards(4, 25, cars=3):
            house, night, got = House(yard), [], []
            for number in range(4):
                now, supply = house.yard(), chance.randint(0, 7)
                amounts = house.hour(number, supply)
                self.assertEqual(amounts, order_for(now, supply))
                self.assertIs(is_right(now, supply, amounts), True)
                self.assertEqual(house.yard(), charged(now, amounts))
                night.append(supply)
                got.append(sum(house.meters().values()))
            self.assertEqual(tuple([0] + got), brute.could(yard, night))

    def test_the_same_number_again(self):
        house = House(PAIR)
        self.assertEqual(house.hour(0, 5), {"bus": 3, "van": 2})
        before = state_of(house)
        for supply in (0, 1, 5, 9, GREAT):
            self.assertEqual(house.hour(0, supply), {"bus": 3, "van": 2})
            self.assertEqual(state_of(house), before)
        self.assertEqual([house.hour(5, 0), house.hour(5, 9), house.disk()[1]], [{}, {}, (5, 0, ())])

    def test_what_is_returned_is_new(self):
        house = House(PAIR)
        before = house.hour(0, 5)
        before["bus"] = 99
        house.meters()["bus"] = 99
        self.assertEqual([house.hour(0, 5), house.meters()], [{"bus": 3, "van": 2}, {"bus": 3, "van": 2}])

    def test_keys_are_ascending(self):
        house = House(((), (("m", "feed", 1, 9),)))
        house.edit([("car", "a", "feed", 1, 9), ("car", "z", "feed", 1, 9)])
        self.assertEqual([list(house.hour(1, 9)), list(house.meters())], [["a", "m", "z"]] * 2)

    def test_great_yards(self):
        house = House(great_yard(2))
        for number in range(3):
            house.hour(number, GREAT // 3)
        self.assertEqual(sum(house.meters().values()), sum(row[2] for row in house.log()))


class Edits(unittest.TestCase):
    def test_edits_and_returns(self):
        house = House(PAIR)
        house.hour(0, 4)
        meters = house.meters()
        told = changed(house.yard(), [("car", "bus", "feed", 1, 9), ("no car", "van"), ("cable", "feed", "k", 3)])
        self.assertIsNone(house.edit([("car", "bus", "feed", 1, 9), ("no car", "van"), ("cable", "feed", "k", 3)]))
        self.assertEqual([house.yard(), house.meters(), house.disk()[0][1]], [told, meters, 0])
        self.assertIsNone(house.edit(()))
        self.assertEqual(house.yard(), told)

    def test_no_order_is_said_again_behind_an_edit(self):
        house = House(PAIR)
        house.hour(3, 9)
        house.edit([("car", "tram", "feed", 9, 9)])
        before = state_of(house)
        self.assertEqual([house.hour(3, 9), state_of(house)], [{}, before])
        self.assertEqual(house.hour(4, 9), order_for(before[3], 9))

    def test_a_car_goes_and_comes_back_with_its_meter(self):
        house = House(PAIR)
        house.hour(0, 9)
        house.edit([("no car", "bus")])
        self.assertEqual([house.meters(), house.yard()[1]], [{"bus": 3, "van": 2}, (("van", "feed", 2, 1),)])
        self.assertEqual(house.hour(1, 9), {"van": 1})
        house.edit([("car", "bus", "feed", 2, 5)])
        self.assertEqual([house.yard()[1], house.disk()[0][0][1]], [(("bus", "feed", 2, 5), ("van", "feed", 2, 0)), (("bus", "feed", 2, 8), ("van", "feed", 2, 3))])
        self.assertEqual([house.hour(2, 9), house.meters()], [{"bus": 2}, {"bus": 5, "van": 3}])
        self.assertEqual(house.log(), ((0, "bus", 3), (0, "van", 2), (1, "van", 1), (2, "bus", 2)))

    def test_all_chargers_that_ever_were(self):
        house = House(PAIR)
        house.edit([("car", "cart", "feed", 1, 1)])
        house.edit([("no car", "cart"), ("no car", "bus")])
        self.assertEqual(house.meters(), {"bus": 0, "cart": 0, "van": 0})
        # A car that comes and goes within one edit never was in the goals.
        house.edit([("car", "tram", "feed", 1, 1), ("no car", "tram")])
        self.assertEqual(house.meters(), {"bus": 0, "cart": 0, "van": 0})

    def test_errors_of_edits_change_nothing(self):
        house = House(YARD)
        house.hour(0, 3)
        before = state_of(house)
        for edits, error in (([("no car", "cart")], NoCar), ([("no cable", "b", "a")], NoCable), ([("no car", "bus"), ("no car", "bus")], NoCar),
                             ([("cable", "a", "b", 9), ("no cable", "x", "y")], NoCable)):
            with self.assertRaises(error):
                house.edit(edits)
            self.assertEqual(state_of(house), before)


class Wrongs(unittest.TestCase):
    def test_yards(self):
        for thing in [*ODD, (YARD[0], YARD[1][::-1]), [*YARD], House(YARD), Charger()]:
            if thing != EMPTY:
                with self.assertRaises(Wrong) as held:
                    House(thing)
                self.assertEqual(held.exception.place, 0)
        for thing in spoiled(PAIR):
            try:
                self.assertEqual(House(thing).yard(), thing)
            except Wrong as wrong:
                self.assertEqual(wrong.place, 0)

    def test_numbers_and_supplies(self):
        house = House(PAIR)
        house.hour(3, 2)
        before = state_of(house)
        wrong = [None, True, False, -1, "4", (4,), [4], {}, {4: 4}, (), "", House(PAIR), Charger(), -10 ** 39]
        for thing in wrong + [0, 1, 2]:
            for supply in (1, None):
                with self.assertRaises(Wrong) as held:
                    house.hour(thing, supply)
                self.assertEqual((held.exception.place, state_of(house)), (0, before))
        for thing in wrong:
            for number in (3, 4, 10 ** 39):
                with self.assertRaises(Wrong) as held:
                    house.hour(number, thing)
                self.assertEqual((held.exception.place, state_of(house)), (1, before))
        self.assertEqual(house.hour(10 ** 39, 10 ** 39), order_for(before[3], 9))
        with self.assertRaises(Wrong):
            House(PAIR).hour(-1, 3)

    def test_wrong_ahead_of_power_cut_and_of_all_steps(self):
        house = House(PAIR)
        house.fail_after(0)
        for arguments, place in (((None, 1), 0), ((0, None), 1), ((-1, -1), 0)):
            with self.assertRaises(Wrong) as held:
                house.hour(*arguments)
            self.assertEqual(held.exception.place, place)
        with self.assertRaises(PowerCut):
            house.hour(0, 1)
        for arguments, place in (((None, 1), 0), ((0, None), 1), ((-1, -1), 0)):
            with self.assertRaises(Wrong) as held:
                house.hour(*arguments)
            self.assertEqual(held.exception.place, place)


class Power(unittest.TestCase):
    def test_ahead_of_each_step_of_an_hour(self):
        for many, disk, meters in ((0, first_disk(PAIR)[1], {"bus": 0, "van": 0}), (1, (0, 9, (("bus", 3), ("van", 2))), {"bus": 0, "van": 0}),
                                   (2, (0, 9, (("bus", 3), ("van", 2))), {"bus": 3, "van": 0})):
            house = House(PAIR)
            self.assertIs(cut_at(house, many, hour(0, 9)), True)
            self.assertEqual([house.disk()[1], house.meters(), house.log()], [disk, meters, ((0, "bus", 3),) if many == 2 else ()])
        house = House(PAIR)
        self.assertIs(cut_at(house, 3, hour(0, 9)), False)
        self.assertEqual(house.meters(), {"bus": 3, "van": 2})

    def test_ahead_of_the_step_of_an_edit(self):
        house = House(PAIR)
        house.hour(0, 1)
        before = state_of(house)
        self.assertIs(cut_at(house, 0, edit(("car", "cart", "feed", 1, 1))), True)
        self.assertEqual(state_of(house), before)
        house.boot()
        house.edit([("car", "cart", "feed", 1, 1)])
        self.assertEqual(house.meters(), {**before[1], "cart": 0})

    def test_nothing_without_power(self):
        house = House(PAIR)
        cut_at(house, 1, hour(0, 9))
        before = state_of(house)
        for call in (hour(0, 9), hour(1, 9), edit(("no car", "bus")), edit(("no car", "nobody")), edit(("no cable", "a", "b")), edit()):
            with self.assertRaises(PowerCut):
                call(house)
            self.assertEqual(state_of(house), before)
        house.boot()
        self.assertEqual(state_of(house), before)
        with self.assertRaises(NoCar):
            house.edit([("no car", "nobody")])

    def test_the_same_number_again_with_another_supply(self):
        for many in range(4):
            for supply in (0, 1, 9):
                house, whole = House(PAIR), House(PAIR)
                cut_at(house, many, hour(0, 4))
                house.boot()
                # If the order was never written it is one of the new SUPPLY.
                whole.hour(0, supply if many == 0 else 4)
                self.assertEqual(house.hour(0, supply), whole.hour(0, 4))
                self.assertEqual(state_of(house), state_of(whole))

    def test_the_next_number_instead(self):
        for many, told in ((1, {}), (2, {"bus": 3})):
            house = House(PAIR)
            cut_at(house, many, hour(0, 9))
            house.boot()
            now = house.yard()
            self.assertEqual(now, charged(PAIR, told))
            self.assertEqual(house.hour(1, 9), order_for(now, 9))
            with self.assertRaises(Wrong):
                house.hour(0, 9)

    def test_steps_are_counted_over_all_calls(self):
        for many in range(8):
            house = House(PAIR)
            house.fail_after(many)
            done = 0
            try:
                for call, steps in ((hour(0, 2), 3), (hour(0, 2), 2), (edit(("car", "van", "feed", 2, 3)), 1), (hour(0, 2), 0), (hour(1, 9), 3)):
                    call(house)
                    done += steps
            except PowerCut:
                self.assertLessEqual(done, many)
                self.assertLess(many, done + 3)
                continue
            self.fail("power did not fail")

    def test_calls_without_steps_are_not_cut(self):
        house = House(PAIR)
        house.hour(0, 9)
        house.edit(())
        house.fail_after(0)
        self.assertEqual(house.hour(0, 9), {})
        with self.assertRaises(NoCar):
            house.edit([("no car", "nobody")])
        with self.assertRaises(PowerCut):
            house.edit(())

    def test_a_new_one_takes_the_place_of_the_elder_one(self):
        house = House(PAIR)
        self.assertIsNone(house.fail_after(0))
        house.fail_after(2)
        self.assertIs(cut_at(house.twin(), 2, hour(0, 9)), True)
        with self.assertRaises(PowerCut):
            house.hour(0, 9)
        self.assertEqual(house.meters(), {"bus": 3, "van": 0})
        house = House(PAIR)
        house.fail_after(1)
        house.fail_after(99)
        self.assertEqual(house.hour(0, 9), {"bus": 3, "van": 2})

    def test_it_fails_once(self):
        house = House(PAIR)
        cut_at(house, 0, hour(0, 9))
        self.assertIsNone(house.boot())
        self.assertEqual([house.hour(number, 9) for number in range(4)], [{"bus": 3, "van": 2}, {"bus": 1, "van": 1}, {}, {}])

    def test_boot_does_no_more_than_give_power(self):
        house = House(PAIR)
        house.fail_after(1)
        house.boot()
        with self.assertRaises(PowerCut):
            house.hour(0, 9)
        house.fail_after(0)
        for call in (hour(0, 9), edit()):
            with self.assertRaises(PowerCut):
                call(house)
        house.boot()
        # That one is still to come: no STEP has been tried since.
        with self.assertRaises(PowerCut):
            house.hour(0, 9)
        house.boot()
        self.assertEqual(house.hour(0, 9), {"bus": 3, "van": 2})


class Equality(unittest.TestCase):
    def test_disks_and_meters(self):
        one, other = House(PAIR), House(PAIR)
        self.assertTrue(one == other)
        self.assertFalse(one != other)
        one.hour(0, 4)
        self.assertFalse(one == other)
        other.hour(0, 4)
        self.assertTrue(one == other)
        one.hour(1, 0)
        self.assertTrue(one != other)
        self.assertFalse(House(PAIR) == House(YARD))

    def test_power_and_log_are_not_compared(self):
        one, other = House(PAIR), House(PAIR)
        one.fail_after(0)
        self.assertTrue(one == other)
        with self.assertRaises(PowerCut):
            one.hour(0, 9)
        self.assertTrue(one == other)

    def test_meters_alone(self):
        one, other = House(PAIR), House(PAIR)
        cut_at(one, 1, hour(0, 9))
        cut_at(other, 2, hour(0, 9))
        self.assertEqual(one.disk(), other.disk())
        self.assertFalse(one == other)

    def test_nothing_else(self):
        house = House(PAIR)
        for thing in [*ODD, PAIR, house.disk(), house.meters(), (house.disk(), house.meters()), Charger(), house]:
            self.assertIs(house == thing, thing is house)
            self.assertIs(thing == house, thing is house)

    def test_twins_led_apart(self):
        one = House(PAIR)
        one.hour(0, 3)
        one.fail_after(1)
        two = one.twin()
        self.assertTrue(one == two)
        self.assertEqual(state_of(one), state_of(two))
        before = state_of(one)
        with self.assertRaises(PowerCut):
            two.hour(1, 9)
        self.assertEqual(state_of(one), before)
        # Power, and when it fails, are the twin's own.
        three = two.twin()
        two.boot()
        with self.assertRaises(PowerCut):
            three.hour(1, 9)
        two.hour(1, 9)
        two.edit([("car", "cart", "feed", 1, 1)])
        self.assertEqual([state_of(one), "cart" in three.meters(), len(three.log()), len(one.log())], [before, False, 2, 2])
        with self.assertRaises(PowerCut):
            one.hour(1, 9)

    def test_a_twin_knows_what_was_obeyed(self):
        one = House(PAIR)
        cut_at(one, 2, hour(0, 9))
        one.boot()
        two = one.twin()
        one.hour(0, 9)
        self.assertEqual(two.hour(0, 1), {"bus": 3, "van": 2})
        self.assertEqual(state_of(one), state_of(two))

    def test_methods_are_its_own(self):
        for name in ("hour", "edit", "fail_after", "boot", "yard", "disk", "meters", "log", "twin", "__eq__"):
            self.assertIn(name, vars(House))


CALLS = (hour(0, 4), edit(("car", "cart", "k", 2, 3), ("cable", "feed", "k", 2)), hour(1, 3), hour(1, 3), edit(("no car", "cart")), hour(3, 6))


class Kept(unittest.TestCase):
    """[10], over all cuts."""

    def check(self, house):
        """What holds of every house, whatever was called."""
        disk, meters, log, now = state_of(house)
        self.assertIs(is_disk(disk), True)
        self.assertEqual(len({row[:2] for row in log}), len(log))
        for name, meter in meters.items():
            self.assertEqual(meter, sum(row[2] for row in log if row[1] == name))
            goal = car_of(disk[0][0], name)
            self.assertTrue(goal is None or meter <= goal[3])

    def test_whatever_is_cut_it_ends_as_if_it_had_not_been(self):
        for yard in [PAIR, *some_yards(5, 6, cars=3)]:
            names = [car[0] for car in yard[1]]
            calls = CALLS if "cart" not in names else ()
            for cuts in itertools.product(range(5), repeat=2):
                for places in itertools.combinations(range(len(calls)), 2):
                    house, whole = House(yard), House(yard)
                    for at, call in enumerate(calls):
                        call(whole)
                        if at in places and cut_at(house, cuts[places.index(at)], call):
                            self.check(house)
                            house.boot()
                            # If nothing of the call was done yet, or not all, it is done now.
                            call(house)
                        elif at not in places:
                            call(house)
                        self.assertEqual(state_of(house), state_of(whole))
                        self.check(house)

    def test_hours_that_do_not_go_on(self):
        for yard in [PAIR, YARD, *some_yards(6, 8, cars=3)]:
            for cuts in itertools.product(range(4), repeat=3):
                house, given = House(yard), {}
                for number, many in enumerate(cuts):
                    now = house.yard()
                    was_cut = cut_at(house, many, hour(number, 4))
                    house.boot()
                    amounts = {row[1]: row[2] for row in house.log() if row[0] == number}
                    told = order_for(now, 4)
                    # What was obeyed is a part of a right order, so no cable carries too much.
                    self.assertTrue(all(told[name] == amount for name, amount in amounts.items()))
                    self.assertEqual(was_cut, many < 1 + len(told))
                    self.assertIs(is_order(now, 4, amounts), True)
                    self.assertEqual(house.yard(), charged(now, amounts))
                    self.check(house)
                for number in (3, 4):
                    # From here on no hour is cut.
                    now = house.yard()
                    self.assertIs(is_right(now, 5, house.hour(number, 5)), True)

    def test_from_then_on_as_good_as_any(self):
        for yard in some_yards(7, 10, cars=2, great=2):
            for many in range(3):
                house = House(yard)
                cut_at(house, many, hour(0, 3))
                house.boot()
                now, before, night = house.yard(), sum(house.meters().values()), (2, 0, 3)
                got = [0]
                for number, supply in enumerate(night):
                    house.hour(number + 1, supply)
                    got.append(sum(house.meters().values()) - before)
                self.assertEqual(tuple(got), could_by_all(now, night))

    def test_rows_of_any_calls(self):
        chance = random.Random(8)
        for _ in range(150):
            house, number = House(PAIR), 0
            for _ in range(12):
                word = chance.choice(["hour", "hour", "again", "edit", "fail", "boot"])
                try:
                    if word == "hour":
                        number += chance.randint(0, 2)
                        house.hour(number, chance.randint(0, 6))
                    elif word == "again":
                        house.hour(max(0, house.disk()[1][0]), chance.randint(0, 6))
                    elif word == "edit":
                        house.edit([("car", chance.choice(["bus", "cart"]), "feed", chance.randint(1, 3), chance.randint(0, 4))])
                    elif word == "fail":
                        house.fail_after(chance.randint(0, 4))
                    else:
                        house.boot()
                except PowerCut:
                    house.yard()
                except Wrong:
                    number = max(number, house.disk()[1][0])
                self.check(house)
                for hour_number in {row[0] for row in house.log()}:
                    self.assertLessEqual(len([row for row in house.log() if row[0] == hour_number]), 3)

    def test_edit_steps_are_those_of_the_cells(self):
        house = House(YARD)
        house.hour(2, 3)
        steps = edit_steps(house.disk(), house.meters(), [("no car", "bus")])
        before = house.disk()
        house.edit([("no car", "bus")])
        self.assertEqual([house.disk(), len(steps)], [disk_behind(before, steps[0]), 1])


if __name__ == "__main__":
    unittest.main()
