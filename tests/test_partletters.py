"""[42]: hours by letters, some of which are lost."""
import itertools
import random
import time
import unittest

from nightstairs.keeping import is_right
from nightstairs.nights import is_order
from nightstairs.partletters import heard_part, hour_of, night_of
from nightstairs.partrows import order_in, row_of
from nightstairs.parts import flat_yard, part_in, parts_in, without_part
from tests import brute_parts
from tests.brute import EMPTY
from tests.brute_parts import HALL, SHED, Post, some_part, some_parts
from tests.test_parts import DEEP, WIDE, twelve


def letters_of(part):
    """The LETTERS that can be lost, as LOST has them."""
    return [(word, name) for word in ("give", "row") for name in sorted(parts_in(part))]


def some_lost(chance, part):
    return tuple(letter for letter in letters_of(part) if chance.random() < 0.3)


def all_lost(part):
    letters = letters_of(part)
    return [lost for many in range(len(letters) + 1) for lost in itertools.combinations(letters, many)]


def line(*needs):
    """PARTS within one another, with a car in each."""
    part = ()
    for at, need in reversed(list(enumerate(needs))):
        part = (("p%d" % at, 2 * len(needs), ((), (("c%d" % at, "feed", 2, need),)), part),)
    return part[0]


class HourOf(unittest.TestCase):
    def test_nothing_lost(self):
        for part in [SHED, HALL, DEEP, WIDE, *some_parts(1, 30, parts=5)]:
            for supply in (0, 1, 3, 6, 99):
                amounts, letters, heard = hour_of(part, supply, ())
                self.assertEqual([amounts, heard], [order_in(part, supply), tuple(sorted(parts_in(part)))])
                self.assertEqual([letter[:2] for letter in letters], [(word, name) for word in ("row", "give") for name in parts_in(part)[1:]])
                for word, name, told in letters[:len(letters) // 2]:
                    self.assertEqual(told, row_of(part_in(part, name)))

    def test_letters_one_by_one(self):
        chance = random.Random(2)
        for _ in range(150):
            part = some_part(chance, parts=5, cars=1, knots=1, great=2)
            lost, supply = some_lost(chance, part), chance.randint(0, 6)
            post = Post(part, supply, lost)
            names = parts_in(part)
            rows = tuple(("row", name, post.rows[name]) for name in names[1:])
            gives = tuple(("give", name, post.gives[name]) for name in names if name in post.gives)
            amounts, letters, heard = hour_of(part, supply, lost)
            self.assertEqual([letters, heard], [rows + gives, tuple(sorted(post.heard))], (part, supply, lost))
            for name in names:
                own = {car[0]: amounts[car[0]] for car in part_in(part, name)[2][1] if car[0] in amounts}
                self.assertEqual(sum(own.values()), post.shares.get(name, 0))
                self.assertIs(is_right(part_in(part, name)[2], sum(own.values()), own), True)

    def test_whatever_is_lost_it_is_an_order(self):
        for part in (HALL, line(3, 1, 2), ("t", 4, ((), (("a", "feed", 1, 3),)), (("u", 3, ((), (("b", "feed", 2, 2),)), ()), ("v", 2, ((), (("c", "feed", 2, 9),)), ())))):
            yard = flat_yard(part)
            for lost in all_lost(part):
                for supply in (0, 1, 3, 9):
                    amounts, letters, heard = hour_of(part, supply, lost)
                    self.assertIs(is_order(yard, supply, amounts), True)
                    if not any(word == "give" for word, name in lost):
                        told = flat_yard(heard_part(part, heard))
                        self.assertIs(is_right(told, supply, amounts), True, (part, lost))

    def test_some_lost_in_greater_parts(self):
        chance = random.Random(3)
        for _ in range(80):
            part = some_part(chance, parts=7)
            lost, supply = some_lost(chance, part), chance.randint(0, 9)
            amounts, letters, heard = hour_of(part, supply, lost)
            self.assertIs(is_order(flat_yard(part), supply, amounts), True)
            rows_lost = tuple(letter for letter in lost if letter[0] == "row")
            amounts, letters, heard = hour_of(part, supply, rows_lost)
            self.assertIs(is_right(flat_yard(heard_part(part, heard)), supply, amounts), True)

    def test_a_row_lost_at_each_depth(self):
        part = line(1, 1, 1, 1)
        self.assertEqual([hour_of(part, 9, (("row", "p%d" % at),))[0] for at in (1, 2, 3)],
                         [{"c0": 1}, {"c0": 1, "c1": 1}, {"c0": 1, "c1": 1, "c2": 1}])
        self.assertEqual([hour_of(part, 9, (("row", "p%d" % at),))[2] for at in (0, 1, 2, 3)],
                         [("p0", "p1", "p2", "p3"), ("p0",), ("p0", "p1"), ("p0", "p1", "p2")])
        self.assertEqual(hour_of(part, 9, (("row", "p2"),))[1],
                         (("row", "p1", ((1, 1),)), ("row", "p2", ((2, 1),)), ("row", "p3", ((1, 1),)), ("give", "p1", 1)))

    def test_a_give_lost_at_each_depth(self):
        part = line(1, 1, 1, 1)
        rows = tuple(("row", "p%d" % at, ((4 - at, 1),)) for at in (1, 2, 3))
        for at, told in ((1, {"c0": 1}), (2, {"c0": 1, "c1": 1}), (3, {"c0": 1, "c1": 1, "c2": 1})):
            gives = tuple(("give", "p%d" % one, 4 - one) for one in range(1, at + 1))
            self.assertEqual(hour_of(part, 9, (("give", "p%d" % at),)), (told, rows + gives, ("p0", "p1", "p2", "p3")))

    def test_several_at_once(self):
        part = line(1, 1, 1, 1)
        self.assertEqual(hour_of(part, 9, (("give", "p2"), ("row", "p3"))),
                         ({"c0": 1, "c1": 1}, (("row", "p1", ((2, 1),)), ("row", "p2", ((1, 1),)), ("row", "p3", ((1, 1),)),
                                               ("give", "p1", 2), ("give", "p2", 1)), ("p0", "p1", "p2")))
        self.assertEqual(hour_of(part, 9, (("row", "p1"), ("row", "p2"), ("row", "p3"))),
                         ({"c0": 1}, (("row", "p1", ((1, 1),)), ("row", "p2", ((1, 1),)), ("row", "p3", ((1, 1),))), ("p0",)))
        self.assertEqual(hour_of(part, 9, (("row", "p1"), ("row", "p3")))[2], ("p0",))
        for at in range(2, 4):
            # Who is not heard hears no more of what its own parts told it.
            self.assertEqual(hour_of(part, 9, (("give", "p%d" % at), ("row", "p1")))[0], {"c0": 1})

    def test_lost_letters_that_are_never_written(self):
        for part in (HALL, WIDE, line(1, 2, 3)):
            for lost in ((("row", part[0]),), (("give", part[0]),), (("give", "nobody"), ("row", "nobody")), (("give", part[0]), ("row", part[0]))):
                for supply in (0, 2, 99):
                    self.assertEqual(hour_of(part, supply, lost), hour_of(part, supply, ()))
        self.assertEqual(hour_of(HALL, 9, (("give", "shed"), ("row", "shed"))), hour_of(HALL, 9, (("row", "shed"),)))

    def test_gives_of_0(self):
        amounts, letters, heard = hour_of(HALL, 0, ())
        self.assertEqual([amounts, letters[1:], heard], [{}, (("give", "shed", 0),), ("hall", "shed")])
        self.assertEqual(hour_of(DEEP, 9, ())[1], tuple(("row", name, ()) for name in "bcdef") + tuple(("give", name, 0) for name in "bcdef"))
        self.assertEqual(hour_of(HALL, 0, (("give", "shed"),)), hour_of(HALL, 0, ()))
        self.assertEqual(hour_of(line(1, 1, 1), 0, (("give", "p1"),))[1][2:], (("give", "p1", 0),))
        self.assertEqual(hour_of(line(1, 1, 1), 0, (("row", "p2"),))[1][2:], (("give", "p1", 0),))

    def test_all_letters_stand_in_the_order_of_parts_in(self):
        letters = hour_of(WIDE, 5, (("give", "a"), ("row", "c")))[1]
        self.assertEqual([letter[:2] for letter in letters],
                         [("row", name) for name in "azbcd"] + [("give", name) for name in "abd"])
        part = ("m", 9, EMPTY, (("a", 1, EMPTY, (("z", 1, EMPTY, ()),)), ("b", 1, EMPTY, (("c", 1, EMPTY, ()),))))
        self.assertEqual([letter[1] for letter in hour_of(part, 1, ())[1]], ["a", "z", "b", "c"] * 2)

    def test_one_part(self):
        self.assertEqual(hour_of(SHED, 5, ()), ({"van": 2}, (), ("shed",)))
        self.assertEqual(hour_of(("a", 0, SHED[2], ()), 5, ()), ({}, (), ("a",)))


class HeardPart(unittest.TestCase):
    def test_told_ones(self):
        self.assertEqual([heard_part(HALL, ("hall", "shed")), heard_part(HALL, ("hall",)), heard_part(SHED, ("shed",))],
                         [HALL, without_part(HALL, "shed"), SHED])
        for part in some_parts(4, 20, parts=6):
            self.assertEqual(heard_part(part, tuple(sorted(parts_in(part)))), part)
            self.assertEqual(heard_part(part, (part[0],)), part[:3] + ((),))
            for name in parts_in(part)[1:]:
                heard = hour_of(part, 3, (("row", name),))[2]
                self.assertEqual(heard_part(part, heard), without_part(part, name))

    def test_at_all_depths(self):
        for lost in all_lost(line(1, 2, 3)):
            heard = hour_of(line(1, 2, 3), 4, lost)[2]
            self.assertEqual(sorted(parts_in(heard_part(line(1, 2, 3), heard))), list(heard))


class NightOf(unittest.TestCase):
    def test_no_hour(self):
        for part in (SHED, HALL, DEEP):
            self.assertEqual(night_of(part, (), ()), ([], part))

    def test_hour_by_hour(self):
        chance = random.Random(5)
        for _ in range(40):
            part = some_part(chance, parts=5, great=4)
            night = tuple(chance.randint(0, 7) for _ in range(4))
            losses = tuple(some_lost(chance, part) if chance.random() < 0.6 else () for _ in night)
            rows, last = night_of(part, night, losses)
            left = part
            for amounts, supply, lost in zip(rows, night, losses):
                self.assertEqual(amounts, hour_of(left, supply, lost)[0], (left, supply, lost))
                self.assertEqual(list(amounts), sorted(amounts))
                left = brute_parts.less(left, amounts)
            self.assertEqual([last, len(rows)], [left, 4])

    def test_behind_the_last_loss_each_order_is_right(self):
        chance = random.Random(6)
        for _ in range(25):
            part = some_part(chance, parts=4, great=4)
            night = tuple(chance.randint(0, 7) for _ in range(5))
            losses = (some_lost(chance, part), some_lost(chance, part), (), (), ())
            rows, last = night_of(part, night, losses)
            left = part
            for at, amounts in enumerate(rows):
                self.assertIs(is_order(flat_yard(left), night[at], amounts), True)
                if at > 1:
                    self.assertIs(is_right(flat_yard(left), night[at], amounts), True)
                left = brute_parts.less(left, amounts)

    def test_what_is_returned_is_new(self):
        rows, last = night_of(HALL, (0, 0), ((), ()))
        rows[0]["bus"] = 1
        self.assertEqual([rows[1], night_of(HALL, (0, 0), ((), ()))], [{}, ([{}, {}], HALL)])

    def test_great_parts_and_a_long_night(self):
        part = twelve()
        chance = random.Random(7)
        night = tuple(chance.randint(0, 10 ** 12) for _ in range(6))
        losses = ((("row", "p03"),), (("give", "p08"),), (), (), (("give", "p07"), ("row", "p11")), ())
        begin = time.process_time()
        rows, last = night_of(part, night, losses)
        self.assertLess(time.process_time() - begin, 30)
        self.assertEqual(last, brute_parts.less(part, {car: sum(row.get(car, 0) for row in rows) for row in rows for car in row}))
        small = line(*[10 ** 12 - at for at in range(6)])
        rows, last = night_of(small, (7,) * 48, ((("give", "p3"),), (("row", "p1"),)) * 24)
        self.assertEqual([len(rows), rows[0], rows[1::2]], [48, hour_of(small, 7, (("give", "p3"),))[0], [{"c0": 2}] * 24])


if __name__ == "__main__":
    unittest.main()
