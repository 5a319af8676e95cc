"""[46]: books of nights."""
import random
import unittest

from nightstairs.books import (charged_in, first_wrong, night_of, read_book, show_book, stretches_of, sums_of, with_edit, with_hour, with_order,
                               yards_of)
from nightstairs.could import could
from nightstairs.edits import changed
from nightstairs.errors import NoCable, NoCar, NoText, Short, Wrong
from nightstairs.house import House
from nightstairs.keeping import short_hours
from nightstairs.nights import all_orders, is_order
from nightstairs.orders import order_for
from nightstairs.yards import charged
from nightstairs.yardtexts import show_yard
from tests import brute
from tests.brute import EMPTY, ODD, great_yard, some_yards

PAIR = ((("feed", "k", 3),), (("a", "k", 2, 3), ("b", "k", 2, 1)))
RIGHT = (PAIR, (("hour", 1, {"a": 1}), ("edit", ("car", "c", "feed", 1, 2)), ("hour", 0, {}), ("hour", 9, {"a": 2, "b": 1, "c": 1}),
                ("edit", ("no cable", "feed", "k")), ("edit", ("no car", "b"))))
TEXT = "cable feed k 3\ncar a k 2 3\ncar b k 2 1\nnight\nhour 1 a=1\nedit car c feed 1 2\nhour 0\nhour 9 a=2 b=1 c=1\nedit no cable feed k\nedit no car b"


def some_book(chance, yard, entries=5, right=True):
    """A book that stands."""
    book = (yard, ())
    for _ in range(entries):
        now = yards_of(book)[-1]
        supply = chance.randint(0, 6)
        word = chance.choice(["hour", "hour", "hour", "edit"])
        if word == "hour":
            amounts = order_for(now, supply) if right else chance.choice(all_orders(now, supply))
            book = book[0], book[1] + (("hour", supply, amounts),)
        else:
            edits = [("car", chance.choice("xyz"), chance.choice(["feed", "k0"]), chance.randint(1, 3), chance.randint(0, 4)),
                     ("cable", "feed", "k0", chance.randint(0, 4))]
            edits += [("no cable", start, end) for start, end, _ in now[0]] + [("no car", car[0]) for car in now[1]]
            book = book[0], book[1] + (("edit", chance.choice(edits)),)
    return book


def some_books(seed, many, **kind):
    chance = random.Random(seed)
    return [some_book(chance, yard, **kind) for yard in some_yards(seed, many, cars=2, great=3)]


class Told(unittest.TestCase):
    def test_yards_nights_and_sums(self):
        yards = yards_of(RIGHT)
        self.assertEqual(len(yards), 7)
        for ahead, entry, behind in zip(yards, RIGHT[1], yards[1:]):
            self.assertEqual(behind, changed(ahead, [entry[1]]) if entry[0] == "edit" else charged(ahead, entry[2]))
        self.assertEqual(yards[-1], ((), (("a", "k", 2, 0), ("c", "feed", 1, 1))))
        self.assertEqual([night_of(RIGHT), sums_of(RIGHT), stretches_of(RIGHT)], [(1, 0, 9), (1, 0, 4), ((0, 1), (2, 4))])

    def test_no_entry(self):
        for yard in (PAIR, EMPTY, great_yard(1)):
            book = (yard, ())
            self.assertEqual([yards_of(book), night_of(book), sums_of(book), stretches_of(book), charged_in(book), first_wrong(book)],
                             [(yard,), (), (), (), (), None])

    def test_edits_alone(self):
        book = (PAIR, (("edit", ("no car", "a")), ("edit", ("car", "a", "feed", 1, 1))))
        self.assertEqual([len(yards_of(book)), night_of(book), sums_of(book), stretches_of(book), charged_in(book), first_wrong(book)], [3, (), (), (), (), None])

    def test_stretches(self):
        hour, edit = ("hour", 0, {}), ("edit", ("cable", "feed", "k", 1))
        for word, told in (("h", ((0, 1),)), ("e", ()), ("hh", ((0, 2),)), ("eh", ((1, 2),)), ("he", ((0, 1),)), ("heh", ((0, 1), (2, 3))), ("ehhe", ((1, 3),)),
                           ("heeh", ((0, 1), (3, 4))), ("hhhehheeeh", ((0, 3), (4, 6), (9, 10))), ("eee", ())):
            book = (EMPTY, tuple(hour if sign == "h" else edit for sign in word))
            self.assertEqual(stretches_of(book), told, word)
            self.assertEqual([row[0] for row in charged_in(book)], [at for begin, end in told for at in range(begin, end)])

    def test_charged_in(self):
        self.assertEqual(charged_in(RIGHT), ((0, 1, 1), (2, 0, 0), (3, 4, 4)))
        late = (PAIR, (("hour", 3, {}), ("hour", 3, {"a": 1}), ("hour", 9, {"a": 2, "b": 1})))
        self.assertEqual(charged_in(late), ((0, 0, 3), (1, 1, 4), (2, 4, 4)))

    def test_charged_in_of_right_books_and_others(self):
        for book in some_books(1, 40, entries=6):
            self.assertTrue(all(got == most for _, got, most in charged_in(book)))
        less = 0
        for book in some_books(2, 40, right=False):
            yards, rows = yards_of(book), charged_in(book)
            for begin, end in stretches_of(book):
                hours = book[1][begin:end]
                told = could(yards[begin], tuple(entry[1] for entry in hours))
                got = [sum(sum(entry[2].values()) for entry in hours[:at + 1]) for at in range(len(hours))]
                self.assertEqual([row for row in rows if begin <= row[0] < end], [(begin + at, got[at], told[at + 1]) for at in range(len(hours))])
                self.assertEqual(told, brute.could(yards[begin], tuple(entry[1] for entry in hours)))
            self.assertTrue(all(got <= most for _, got, most in rows))
            less += any(got < most for _, got, most in rows)
        self.assertGreater(less, 10)


class FirstWrong(unittest.TestCase):
    def test_each_sort(self):
        for entry, what in ((("hour", 1, {"b": 1}), 1), (("hour", 2, {"a": 1}), 0), (("hour", 0, {"a": 1}), "order"), (("hour", 9, {"a": 3}), "order"),
                            (("edit", ("no car", "c")), "edit"), (("edit", ("no cable", "k", "feed")), "edit"), (("hour", 9, {"a": 2, "b": 2}), "order")):
            for ahead in ((), (("edit", ("car", "z", "far", 1, 0)),), (("hour", 0, {}), ("hour", 0, {}))):
                # What stands behind is not looked at.
                for later in ((), (("hour", 0, {"nobody": 7}),), (("edit", ("no car", "nobody")),)):
                    self.assertEqual(first_wrong((PAIR, ahead + (entry,) + later)), (len(ahead), what))

    def test_right_books(self):
        for book in [RIGHT, *some_books(3, 30)]:
            self.assertIsNone(first_wrong(book))

    def test_one_by_one(self):
        for book in some_books(4, 60, right=False):
            told = None
            for at, (yard, entry) in enumerate(zip(yards_of(book), book[1])):
                if told is None and entry[0] == "hour" and short_hours(yard, entry[1], entry[2]) is not None:
                    told = at, short_hours(yard, entry[1], entry[2])
            self.assertEqual(first_wrong(book), told)

    def test_entries_out_of_their_order(self):
        for book in some_books(5, 40):
            yard, told = book[0], None
            turned = book[1][::-1]
            for at, entry in enumerate(turned):
                if entry[0] == "edit":
                    try:
                        yard = changed(yard, [entry[1]])
                        continue
                    except (NoCar, NoCable):
                        told = at, "edit"
                        break
                if not is_order(yard, entry[1], entry[2]):
                    told = at, "order"
                    break
                if short_hours(yard, entry[1], entry[2]) is not None:
                    told = at, short_hours(yard, entry[1], entry[2])
                    break
                yard = charged(yard, entry[2])
            self.assertEqual(first_wrong((book[0], turned)), told)


class With(unittest.TestCase):
    def test_with_hour(self):
        for book in [RIGHT, (PAIR, ()), *some_books(6, 20)]:
            for supply in (0, 1, 3, 9):
                later = with_hour(book, supply)
                self.assertEqual(later, (book[0], book[1] + (("hour", supply, order_for(yards_of(book)[-1], supply)),)))
                self.assertIsNone(first_wrong(later))

    def test_with_order(self):
        for book in [(PAIR, ()), *some_books(7, 12, entries=3)]:
            now = yards_of(book)[-1]
            for supply in (0, 2, 5):
                for amounts in all_orders(now, supply):
                    hours, before = short_hours(now, supply, amounts), repr(book)
                    if hours is None:
                        self.assertEqual(with_order(book, supply, amounts), (book[0], book[1] + (("hour", supply, amounts),)))
                    else:
                        with self.assertRaises(Short) as held:
                            with_order(book, supply, amounts)
                        self.assertEqual(held.exception.hours, hours)
                    self.assertEqual(repr(book), before)

    def test_with_edit(self):
        for edit in (("car", "a", "feed", 1, 9), ("no car", "b"), ("cable", "k", "m", 0), ("no cable", "feed", "k")):
            self.assertEqual(with_edit((PAIR, ()), edit), (PAIR, (("edit", edit),)))
        with self.assertRaises(NoCar) as held:
            with_edit(RIGHT, ("no car", "b"))
        self.assertEqual(held.exception.name, "b")
        with self.assertRaises(NoCable) as held:
            with_edit(RIGHT, ("no cable", "feed", "k"))
        self.assertEqual((held.exception.start, held.exception.end), ("feed", "k"))

    def test_the_dicts_are_new_and_ascending(self):
        amounts = {"b": 1, "a": 2}
        book = (PAIR, (("hour", 9, amounts),))
        for later in (with_hour(book, 3), with_order(book, 1, {"a": 1}), with_edit(book, ("no car", "b")), with_order((PAIR, ()), 9, amounts)):
            self.assertEqual(list(later[1][0][2]), ["a", "b"])
            later[1][0][2]["a"] = 99
            self.assertEqual([amounts, list(amounts)], [{"b": 1, "a": 2}, ["b", "a"]])
        order = {"a": 1}
        later = with_order((PAIR, ()), 1, order)
        order["a"] = 7
        self.assertEqual(later[1][0][2], {"a": 1})
        empty = with_hour(with_hour((PAIR, ()), 0), 0)
        empty[1][0][2]["a"] = 1
        self.assertEqual(empty[1][1][2], {})


class Texts(unittest.TestCase):
    def bad(self, text, line):
        with self.assertRaises(NoText) as held:
            read_book(text)
        self.assertEqual(held.exception.line, line, text)

    def test_show_book(self):
        self.assertEqual([show_book(RIGHT), show_book((EMPTY, ())), show_book((PAIR, ()))], [TEXT, "night", show_yard(PAIR) + "\nnight"])
        self.assertEqual(show_book((EMPTY, (("hour", 0, {}), ("edit", ("cable", "feed", "a", 4)), ("edit", ("no cable", "feed", "a"))))),
                         "night\nhour 0\nedit cable feed a 4\nedit no cable feed a")
        self.assertEqual(show_book((PAIR, (("hour", 9, {"b": 1, "a": 2}),))).split("\n")[-1], "hour 9 a=2 b=1")

    def test_read_what_was_shown(self):
        for book in [RIGHT, (EMPTY, ()), (PAIR, ()), *some_books(8, 40), *some_books(9, 40, right=False)]:
            read = read_book(show_book(book))
            self.assertEqual([read, show_book(read)], [book, show_book(book)])
            self.assertTrue(all(list(entry[2]) == sorted(entry[2]) for entry in read[1] if entry[0] == "hour"))

    def test_a_book_has_to_stand_but_need_not_be_right(self):
        head = show_yard(PAIR) + "\nnight\n"
        self.assertEqual(read_book(head + "hour 1 b=1")[1], (("hour", 1, {"b": 1}),))
        self.assertEqual(read_book(head + "hour 3")[1], (("hour", 3, {}),))

    def test_amounts_in_any_order_and_blanks_more(self):
        text = TEXT.replace("hour 9 a=2 b=1 c=1", "  hour   9  c=1 a=2   b=1 ").replace("night", "   night  ").replace("edit no car b", " edit  no  car  b ")
        self.assertEqual(read_book(text.replace("edit car c feed", "edit   car c    feed")), RIGHT)

    def test_empty_lines_are_skipped_but_counted(self):
        self.assertEqual(read_book("\n \n" + TEXT.replace("\n", "\n  \n\n") + "\n\n"), RIGHT)
        self.bad("\n\nnight\n\n \nhours 3", 5)
        self.bad("\nnothing\nnight\n\nhours", 1)

    def test_yards_in_any_order(self):
        lines = TEXT.split("\n")
        self.assertEqual(read_book("\n".join(lines[:3][::-1] + lines[3:])), RIGHT)

    def test_the_sign_ahead_of_night_and_behind_it(self):
        self.assertEqual(read_book("# of a yard\n" + TEXT.replace("cable feed k 3", "cable feed k 3 # main").replace("car a", "#night\ncar a")), RIGHT)
        lines = TEXT.split("\n")
        for at in range(4, len(lines)):
            self.bad("\n".join(lines[:at] + [lines[at] + " # all"] + lines[at + 1:]), at)
            self.bad("\n".join(lines[:at] + ["# of the night"] + lines[at:]), at)
            self.bad("\n".join(lines[:at] + ["#"] + lines[at:]), at)

    def test_a_line_night_is_this_word_alone(self):
        self.bad("night # of all", 0)
        self.bad("night 3\nnight", 0)
        self.bad("Night\nnight", 0)
        self.bad("night\nnight", 1)
        self.bad("car a k 2 3\nnight\nhour 1 a=1\nnight", 2)
        self.assertEqual(read_book("# night\nnight"), (EMPTY, ()))

    def test_night_lacking(self):
        for text, line in (("", 1), ("\n", 2), ("cable feed k 3", 1), ("cable feed k 3\ncar a k 2 3\n\n", 4), ("# night", 1), ("x\n", 0), ("car a k 2 3\nhour 1 a=1", 1),
                           ("car a k 2 3\ncar a k 2 3\n", 1), ("  \n edit no car a", 1)):
            self.bad(text, line)

    def test_the_first_bad_line_of_each_sort(self):
        lines = TEXT.split("\n")
        for row in ("hour", "hour x", "hour 01", "hour +1", "hour -1", "hour 1 a", "hour 1 a=", "hour 1 a=0", "hour 1 a=01", "hour 1 a=1 a=1", "hour 1 a =1",
                    "hour 1 =1", "hour 1 A=1", "hour 1 a=1 b=", "hours 1", "Hour 1", "hour 1.0", "hour 0 a=1", "hour 9 a=3", "hour 9 q=1", "hour a=1", "hour 9 b=2",
                    "edit", "edit no", "edit no car", "edit no car q", "edit no car q q", "edit no cable feed", "edit no cable feed q", "edit no cable k feed",
                    "edit cable feed k", "edit cable feed k x", "edit cable feed k 01", "edit cable feed k -1", "edit cable k feed 1", "edit cable k k 1",
                    "edit cable feed k 1 1", "edit car q k 1", "edit car q k 0 1", "edit car q k 1 1 1", "edit car Q k 1 1", "edit car q k x 1", "edit nocar a",
                    "edit no-car a", "edit yard", "edits no car a", "no car a", "car q k 1 1", "cable feed k 3", "night", "a=1", "undo", "edit no  wheel a"):
            for at in (4, 5):
                self.bad("\n".join(lines[:at] + [row] + lines[at:] + ["also bad"]), at)
        for row in ("hour 1", "car a k 0 3", "car a k 2", "cable a feed 3", "cable feed k 3", "car b k 2 1", "edit no car a", "cable x y 007", "nights"):
            self.bad("\n".join(lines[:3] + [row] + lines[3:] + ["also bad"]), 3)
        self.bad(TEXT + "\nedit no car b", 10)
        self.bad(TEXT + "\nhour 9 a=1", 10)

    def test_great_integers(self):
        text = "cable feed k %d\ncar a k %d %d\nnight\nhour %d a=%d" % ((10 ** 12,) * 5)
        self.assertEqual(show_book(read_book(text)), text)

    def test_what_is_no_string(self):
        for thing in [*ODD, (PAIR, ()), House(PAIR)]:
            if isinstance(thing, str):
                self.bad(thing, 0 if thing else 1)
            else:
                with self.assertRaises(Wrong) as held:
                    read_book(thing)
                self.assertEqual(held.exception.place, 0)

    def test_texts_spoiled(self):
        chance = random.Random(10)
        for _ in range(300):
            at = chance.randrange(len(TEXT))
            text = TEXT[:at] + chance.choice(["", "x", " ", "\n", "0", "=", "#", "7"]) + TEXT[at + chance.randint(0, 2):]
            try:
                book = read_book(text)
            except NoText as bad:
                self.assertIn(bad.line, range(text.count("\n") + 2))
            else:
                self.assertIs(all(is_order(yard, entry[1], entry[2]) for yard, entry in zip(yards_of(book), book[1]) if entry[0] == "hour"), True)
                self.assertEqual(read_book(show_book(book)), book)


if __name__ == "__main__":
    unittest.main()
