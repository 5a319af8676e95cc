"""[48]: the desk."""
import random
import unittest

from nightstairs.bookjudge import is_book
from nightstairs.books import charged_in, first_wrong, night_of, read_book, show_book, with_edit, with_hour, with_order, yards_of
from nightstairs.chargers import Charger
from nightstairs.could import could
from nightstairs.desk import Desk
from nightstairs.errors import NightError, NoCable, NoCar, NoCommand, Short, Wrong
from nightstairs.house import House
from nightstairs.nights import all_orders, is_order
from nightstairs.reach import reach
from nightstairs.stairs import stairs
from nightstairs.yardtexts import show_amounts, show_yard
from tests.brute import EMPTY, ODD, YARD, great_yard, some_yards, spoiled
from tests.test_books import PAIR

QUESTIONS = ("yard", "book", "night", "stairs", "reach 3", "could 1 2", "charged", "paper")


def asked(desk, *lines):
    return [desk.execute(line) for line in lines]


def led(yard, *lines):
    desk = Desk(yard)
    asked(desk, *lines)
    return desk


class Changes(unittest.TestCase):
    def test_hour(self):
        for yard in [PAIR, YARD, EMPTY, great_yard(1), *some_yards(1, 10)]:
            desk, book = Desk(yard), (yard, ())
            for supply in (1, 0, 7, 999999999999):
                book = with_hour(book, supply)
                self.assertEqual(desk.execute("hour %d" % supply), [show_amounts(book[1][-1][2])])
                self.assertEqual(desk.book(), book)
        self.assertEqual(asked(Desk(PAIR), "hour 0", "hour 9", "hour 9", "hour 9"), [[""], ["a=2 b=1"], ["a=1"], [""]])

    def test_order(self):
        chance = random.Random(2)
        for yard in some_yards(3, 15, cars=3, great=2):
            desk, book = Desk(yard), (yard, ())
            for _ in range(6):
                now, supply = yards_of(book)[-1], chance.randint(0, 4)
                amounts = chance.choice(all_orders(now, chance.randint(0, 5)))
                line = "order %d %s" % (supply, show_amounts(amounts))
                if not is_order(now, supply, amounts):
                    self.assertEqual(desk.execute(line), ["no order"])
                else:
                    try:
                        book = with_order(book, supply, amounts)
                        told = ["done"]
                    except Short as short:
                        told = ["short %d" % short.hours]
                    self.assertEqual(desk.execute(line), told)
                self.assertEqual(desk.book(), book)

    def test_orders_that_are_none_and_that_are_short(self):
        desk = Desk(PAIR)
        for line, told in (("order 0 a=1", "no order"), ("order 9 a=3", "no order"), ("order 9 b=2", "no order"), ("order 9 nobody=1", "no order"),
                           ("order 9 a=2 b=1 k=1", "no order"), ("order 2 a=1", "short 0"), ("order 9", "short 0"), ("order 1 b=1", "short 1"),
                           ("order 9 a=%d" % 10 ** 30, "no order")):
            self.assertEqual([desk.execute(line), desk.book()], [[told], (PAIR, ())], line)
        self.assertEqual(asked(desk, "order 0", "order 9 b=1 a=2", "order  9   a=1"), [["done"]] * 3)
        self.assertEqual(desk.book()[1], (("hour", 0, {}), ("hour", 9, {"a": 2, "b": 1}), ("hour", 9, {"a": 1})))
        self.assertEqual(list(desk.book()[1][1][2]), ["a", "b"])

    def test_edit(self):
        desk, book = Desk(PAIR), (PAIR, ())
        for line, edit in (("edit car c k 1 2", ("car", "c", "k", 1, 2)), ("edit  cable k m  0 ", ("cable", "k", "m", 0)), ("edit no car a", ("no car", "a")),
                           ("edit no cable feed k", ("no cable", "feed", "k")), ("edit cable feed k %d" % 10 ** 30, ("cable", "feed", "k", 10 ** 30))):
            book = with_edit(book, edit)
            self.assertEqual([desk.execute(line), desk.book()], [["done"], book])

    def test_edits_that_raise(self):
        desk = led(PAIR, "hour 1", "edit no car b")
        before = desk.book()
        with self.assertRaises(NoCar) as held:
            desk.execute("edit no car b")
        self.assertEqual(held.exception.name, "b")
        with self.assertRaises(NoCable) as held:
            desk.execute("edit no cable x k")
        self.assertEqual((held.exception.start, held.exception.end), ("x", "k"))
        self.assertEqual(desk.book(), before)

    def test_undo_down_to_nothing(self):
        lines = ("hour 1", "edit car c k 1 2", "order 0", "hour 9", "edit no car c")
        desk = Desk(PAIR)
        books = []
        for line in lines:
            books.append(desk.book())
            desk.execute(line)
        for book in books[::-1]:
            self.assertEqual([desk.execute("undo"), desk.book()], [["done"], book])
        self.assertEqual(asked(desk, "undo", "undo", "night"), [["nothing"], ["nothing"], [""]])
        self.assertEqual([desk.book(), desk.execute("hour 1")], [(PAIR, ()), ["a=1"]])


class Questions(unittest.TestCase):
    def test_of_a_book_without_hours(self):
        self.assertEqual(asked(Desk(EMPTY), *QUESTIONS, "could"), [[], ["night"], [""], [], ["0"], ["0", "0", "0"], [], ["taken"], ["0"]])
        self.assertEqual(asked(Desk(PAIR), *QUESTIONS, "could"),
                         [show_yard(PAIR).split("\n"), show_yard(PAIR).split("\n") + ["night"], [""], ["3 1", "1 1"], ["4"], ["0", "1", "3"], [], ["taken"], ["0"]])
        desk = led(PAIR, "edit no car a", "edit no car b", "edit no cable feed k")
        self.assertEqual(asked(desk, "yard", "night", "charged", "paper", "stairs", "could 9"), [[], [""], [], ["taken"], [], ["0", "0"]])
        self.assertEqual(desk.execute("book")[-3:], ["edit no car a", "edit no car b", "edit no cable feed k"])

    def test_of_any_book(self):
        chance = random.Random(4)
        for yard in some_yards(5, 25, cars=3, great=3):
            desk = Desk(yard)
            for _ in range(6):
                try:
                    desk.execute(chance.choice(["hour 2", "hour 0", "hour 5", "edit car zz feed 2 3", "edit cable feed k0 2", "edit no car zz"]))
                except NoCar:
                    continue
            book = desk.book()
            last = yards_of(book)[-1]
            self.assertIsNone(first_wrong(book))
            self.assertEqual(desk.execute("yard"), show_yard(last).split("\n") if show_yard(last) else [])
            self.assertEqual(desk.execute("book"), show_book(book).split("\n"))
            self.assertEqual(desk.execute("night"), [" ".join(str(supply) for supply in night_of(book))])
            self.assertEqual(desk.execute("stairs"), ["%d %d" % run for run in stairs(last)])
            self.assertEqual(desk.execute("reach 2"), [str(reach(last, 2))])
            self.assertEqual(desk.execute("could 3 0 4"), [str(most) for most in could(last, (3, 0, 4))])
            self.assertEqual(desk.execute("charged"), ["%d %d %d" % row for row in charged_in(book)])
            self.assertTrue(all(got == most for _, got, most in charged_in(book)))
            self.assertEqual([desk.execute("paper"), desk.book()], [["taken"], book])
            self.assertEqual(read_book("\n".join(desk.execute("book"))), book)

    def test_they_ask_the_last_yard(self):
        desk = led(PAIR, "hour 9")
        self.assertEqual(asked(desk, "stairs", "reach 1", "could 9", "yard"), [["1 1"], ["1"], ["0", "1"], ["cable feed k 3", "car a k 2 1", "car b k 2 0"]])

    def test_great_answers(self):
        desk = led(great_yard(2), "hour 999999999999", "hour 5")
        self.assertEqual(asked(desk, "paper", "night"), [["taken"], ["999999999999 5"]])
        self.assertEqual(desk.execute("reach 999999999999"), [str(reach(yards_of(desk.book())[-1], 10 ** 12 - 1))])

    def test_what_is_returned_is_new(self):
        desk = led(PAIR, "hour 9")
        for line in QUESTIONS:
            before = desk.execute(line)
            before.append("x")
            self.assertEqual(desk.execute(line), before[:-1])
        book = desk.book()
        book[1][0][2]["a"] = 99
        self.assertEqual(desk.book()[1][0][2], {"a": 2, "b": 1})
        self.assertEqual(desk.execute("book")[-1], "hour 9 a=2 b=1")


class Lines(unittest.TestCase):
    def test_blanks_more(self):
        desk = Desk(PAIR)
        for line, told in (("  hour   1  ", ["a=1"]), (" order  9  b=1   a=2 ", ["done"]), ("  edit   no   car  b ", ["done"]), (" undo ", ["done"]), ("  night", ["1 9"]),
                           (" reach  1 ", ["0"]), ("could  1   2 ", ["0", "0", "0"]), ("stairs  ", []), (" paper", ["taken"]), (" charged ", ["0 1 1", "1 4 4"])):
            self.assertEqual(desk.execute(line), told, line)

    def test_integers_of_twelve_and_of_thirteen_digits(self):
        desk = Desk(PAIR)
        twelve, thirteen = "9" * 12, "1" + "0" * 12
        self.assertEqual(asked(desk, "reach " + twelve, "could " + twelve, "hour " + twelve, "order " + twelve + " a=1"), [["4"], ["0", "3"], ["a=2 b=1"], ["done"]])
        before = desk.book()
        for line in ("reach " + thirteen, "could " + thirteen, "could 1 " + thirteen, "hour " + thirteen, "order " + thirteen, "order %s a=1" % thirteen):
            self.no_command(desk, line)
        self.assertEqual(desk.book(), before)
        # Integers in AMOUNTS and EDITS have no such bound.
        self.assertEqual(asked(desk, "order 1 a=" + thirteen, "edit cable feed k " + thirteen, "edit car c k %s %s" % (thirteen, thirteen)), [["no order"], ["done"], ["done"]])
        self.assertEqual(desk.execute("reach 1"), [str(10 ** 12)])

    def test_48_and_49_supplies(self):
        desk = Desk(PAIR)
        self.assertEqual(desk.execute("could" + " 1" * 48), ["0", "1", "2", "3"] + ["4"] * 45)
        self.no_command(desk, "could" + " 1" * 49)
        self.assertEqual(desk.execute("could"), ["0"])

    def no_command(self, desk, line):
        before = desk.book()
        with self.assertRaises(NoCommand):
            desk.execute(line)
        self.assertEqual(desk.book(), before)

    def test_every_other_line(self):
        desk = led(PAIR, "hour 1")
        for line in ("", " ", "Hour 1", "hours 1", "hour", "hour 1 2", "hour x", "hour 01", "hour +1", "hour -1", "hour 1.0", "hour 1_0", "hour a=1", "order", "order x",
                     "order a=1", "order 1 a", "order 1 a=", "order 1 a=0", "order 1 a=01", "order 1 a=1 a=1", "order 1 A=1", "order 1 a=1,b=1", "order 1 a = 1",
                     "order 1 2", "edit", "edit no", "edit no car", "edit no cable feed", "edit no car a b", "edit cable feed k", "edit cable k feed 1", "edit cable k k 1",
                     "edit cable feed k 01", "edit cable feed k x", "edit car a k 0 1", "edit car a k 1", "edit car a k 1 1 1", "edit car A k 1 1", "edit no wheel a",
                     "undo 1", "undo undo", "yard 1", "yard yard", "book 1", "night 1", "night 1 2", "stairs 1", "reach", "reach x", "reach 1 2", "reach -1", "reach 00",
                     "could x", "could 1 x", "could 1,2", "could 01", "charged 0", "paper 1", "papers", "help", "cable feed k 3", "car a k 1 1", "# hour 1", "hour 1 # one",
                     "undo # that", "stairs;", "execute", "twin", "none"):
            self.no_command(desk, line)

    def test_a_line_feed(self):
        desk = led(PAIR, "hour 1")
        for line in ("hour 1\n", "\nhour 1", "hour\n1", "undo\n", "undo\nundo", "\n", " \n ", "yard\n", "stairs\nstairs", "edit no car a\n", "could 1\n2"):
            self.no_command(desk, line)

    def test_what_is_no_string(self):
        desk = led(PAIR, "hour 1")
        before = desk.book()
        for thing in [*ODD, ["undo"], ("undo",), {"undo": 1}, 1, desk, House(PAIR), Charger(), NoCommand()]:
            if not isinstance(thing, str):
                with self.assertRaises(Wrong) as held:
                    desk.execute(thing)
                self.assertEqual((held.exception.place, desk.book()), (0, before))
            else:
                self.no_command(desk, thing)

    def test_a_yard_that_is_none(self):
        for thing in [*ODD, (PAIR, ()), Desk(PAIR), House(PAIR), [*PAIR], PAIR[::-1], (PAIR[0], PAIR[1][::-1])]:
            if thing != EMPTY:
                with self.assertRaises(Wrong) as held:
                    Desk(thing)
                self.assertEqual(held.exception.place, 0)
        for thing in spoiled(PAIR):
            try:
                self.assertEqual(Desk(thing).book(), (thing, ()))
            except Wrong as wrong:
                self.assertEqual(wrong.place, 0)

    def test_lines_spoiled(self):
        chance = random.Random(6)
        desk = led(PAIR, "hour 1")
        for _ in range(600):
            line = chance.choice(["hour 2", "order 2 a=2", "edit car c k 1 2", "undo", "reach 3", "could 1 2 3", "edit no car c", "edit cable feed k 3"])
            at = chance.randrange(len(line))
            line = line[:at] + chance.choice(["", "x", " ", "=", "0", "1", "\n", "no "]) + line[at + chance.randint(0, 2):]
            before = desk.book()
            try:
                self.assertTrue(all(type(row) is str for row in desk.execute(line)))
            except NightError as error:
                self.assertIn(type(error), (NoCommand, NoCar, NoCable))
                self.assertEqual(desk.book(), before)
            self.assertIs(is_book(desk.book()), True)
            self.assertIsNone(first_wrong(desk.book()))


class Desks(unittest.TestCase):
    def test_equality(self):
        one, other = Desk(PAIR), Desk(PAIR)
        self.assertTrue(one == other)
        self.assertFalse(one != other)
        one.execute("hour 3")
        self.assertFalse(one == other)
        other.execute("order 3 a=2 b=1")
        self.assertTrue(one == other)
        one.execute("hour 0")
        self.assertTrue(one != other)
        one.execute("undo")
        self.assertTrue(one == other)
        self.assertFalse(Desk(PAIR) == Desk(YARD))
        # The same last yard by another way is another book.
        self.assertFalse(led(PAIR, "edit no car a") == led(PAIR, "edit no car a", "edit cable feed k 3"))

    def test_equal_to_nothing_else(self):
        desk = Desk(PAIR)
        for thing in [*ODD, PAIR, desk.book(), House(PAIR), desk]:
            self.assertIs(desk == thing, thing is desk)
            self.assertIs(thing == desk, thing is desk)

    def test_twins_led_apart(self):
        one = led(PAIR, "hour 1")
        two = one.twin()
        self.assertTrue(one == two)
        self.assertEqual(two.book(), one.book())
        two.execute("hour 9")
        self.assertEqual([one.execute("night"), two.execute("night")], [["1"], ["1 9"]])
        one.execute("undo")
        one.execute("edit no car a")
        self.assertEqual([one.book(), two.book()], [(PAIR, (("edit", ("no car", "a")),)), (PAIR, (("hour", 1, {"a": 1}), ("hour", 9, {"a": 2, "b": 1})))])
        self.assertFalse(one == two)

    def test_methods_are_its_own(self):
        for name in ("execute", "book", "twin", "__eq__"):
            self.assertIn(name, vars(Desk))


if __name__ == "__main__":
    unittest.main()
