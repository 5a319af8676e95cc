"""[15]: texts."""
import random
import unittest

from nightstairs.errors import NightError, NoText, Wrong
from nightstairs.yardtexts import read_amounts, read_night, read_yard, show_amounts, show_night, show_yard
from tests.brute import EMPTY, ODD, YARD, great_yard, some_yards

NO_INTEGERS = ["+1", "01", "1_0", "-0", "-1", "00", "1.0", "1e3", "0x1", "one", "1-", "--1", "1,0", "-", "+", "1=", "'1'", "None"]
NO_STRINGS = [thing for thing in ODD if not isinstance(thing, str)] + [1, 0, NightError(), ["cable a b 1"], ("",), b""]


class YardTexts(unittest.TestCase):
    def bad(self, text, line):
        with self.assertRaises(NoText) as caught:
            read_yard(text)
        self.assertEqual(caught.exception.line, line, text)

    def test_show_yard(self):
        self.assertEqual(show_yard(EMPTY), "")
        self.assertEqual(show_yard(YARD), "cable a b 3\ncable feed a 5\ncar bus a 4 6\ncar van b 2 5")
        self.assertEqual(show_yard(((), (("a", "feed", 1, 0),))), "car a feed 1 0")
        self.assertEqual(show_yard(((("feed", "k", 10 ** 12),), ())), "cable feed k 1000000000000")

    def test_there_and_back(self):
        for yard in [EMPTY, YARD, great_yard(1), *some_yards(4, 30)]:
            self.assertEqual(read_yard(show_yard(yard)), yard)

    def test_lines_in_any_order_with_blanks_and_remarks(self):
        chance = random.Random(6)
        for yard in some_yards(5, 30):
            rows = show_yard(yard).split("\n")
            chance.shuffle(rows)
            rows = [" " * chance.randint(0, 2) + row.replace(" ", " " * chance.randint(1, 3)) for row in rows]
            rows = [row + chance.choice(["", " ", "#", " # cable a b 1", "# # no", "  "]) for row in rows]
            for _ in range(chance.randint(0, 4)):
                rows.insert(chance.randint(0, len(rows)), chance.choice(["", "  ", "# cable a b", " #", "#"]))
            self.assertEqual(read_yard("\n".join(rows)), yard)

    def test_texts_without_words(self):
        for text in ("", " ", "\n", "\n\n  \n", "# all\n#\n #", "#cable a b 1"):
            self.assertEqual(read_yard(text), EMPTY)

    def test_lines_that_show_nothing(self):
        for row in (
            "cabel a b 1", "Cable a b 1", "cable a b", "cable a b 1 1", "cable", "car", "car a b 1", "car a b 1 1 1", "a", "night",
            "cable a a 1", "cable a feed 1", "cable A b 1", "cable a 7 1", "cable a b x", "car a b 0 1", "car 1 b 1 1",
            "car a B 1 1", "cable a b -1", "car a b 1 -1", "car a b -1 1", "cable a b #1", "cable a b1", "cable a-b 1", "no car a",
            "cable,a,b,1", "cablea b 1", "cable a " + "b" * 21 + " 1", "cable a b 1 .", "~", "cable a b =1", "cable a b \t1",
        ):
            self.bad(row, 0)
            self.bad("\n# x\n" + row + "\nnone", 2)
            self.bad("cable x y 1\ncar x y 1 1\n  \n\n " + row, 4)

    def test_integers_as_python_shows_them(self):
        for word in NO_INTEGERS:
            self.bad("cable a b " + word, 0)
            self.bad("car x y 1 1\ncar a b " + word + " 1", 1)
            self.bad("car x y 1 1\n\ncar a b 1 " + word, 2)
        self.assertEqual(read_yard("cable a b 0\ncar a b 10 0"), ((("a", "b", 0),), (("a", "b", 10, 0),)))
        self.assertEqual(read_yard("cable a b " + "9" * 3900), ((("a", "b", 10 ** 3900 - 1),), ()))

    def test_the_same_again(self):
        self.bad("cable a b 1\ncable a b 1", 1)
        self.bad("cable a b 1\n\ncable  a b 2\nx", 2)
        self.bad("car a b 1 1\ncar b b 1 1\ncar a b 1 1", 2)
        self.bad("car a b 1 1\ncar a c 2 2", 1)
        self.bad("car a b 1 1\ncable a b 2\ncar a b 1 1\ncable a b 2", 2)
        self.assertEqual(read_yard("cable b a 1\ncable a b 1\ncar a b 1 1"),
                         ((("a", "b", 1), ("b", "a", 1)), (("a", "b", 1, 1),)))

    def test_no_strings(self):
        for thing in NO_STRINGS:
            for read in (read_yard, read_amounts, read_night):
                with self.assertRaises(Wrong) as caught:
                    read(thing)
                self.assertEqual(caught.exception.place, 0)


class AmountsAndNights(unittest.TestCase):
    def bad(self, read, text):
        with self.assertRaises(NoText) as caught:
            read(text)
        self.assertEqual(caught.exception.line, 0, text)

    def test_amounts_there_and_back(self):
        self.assertEqual(show_amounts({}), "")
        self.assertEqual(show_amounts({"van": 2, "bus": 10 ** 12, "b2": 1}), f"b2=1 bus={10 ** 12} van=2")
        for amounts in ({}, {"a": 1}, {"b": 2, "a": 1}, {"feed": 10 ** 15, "x9": 3}):
            told = read_amounts(show_amounts(amounts))
            self.assertEqual(told, amounts)
            self.assertEqual(list(told), sorted(told))

    def test_amounts_in_any_order_and_with_blanks(self):
        self.assertEqual(list(read_amounts("  c=3 a=1    b=2 ").items()), [("a", 1), ("b", 2), ("c", 3)])
        for text in ("", " ", "    "):
            self.assertEqual(read_amounts(text), {})

    def test_bad_amounts(self):
        for text in ("a", "a=", "=1", "a=0", "a =1", "a= 1", "a=1=2", "a==1", "a=1,b=2", "a=1 a=1", "a=1 b=1 a=2", "A=1", "1=1",
                     "a=1 #", "#", "a=1\t", "a=1 b", "a:1", "a=1b=2", "-", "=", "a" * 21 + "=1", "bus=4 van=true"):
            self.bad(read_amounts, text)
        for word in NO_INTEGERS:
            self.bad(read_amounts, "a=" + word)
            self.bad(read_amounts, "b=1 a=" + word)

    def test_nights_there_and_back(self):
        self.assertEqual(show_night(()), "")
        self.assertEqual(show_night((0, 10 ** 12, 3)), "0 1000000000000 3")
        for night in ((), (0,), (3, 3, 0), (10 ** 12, 1), tuple(range(48))):
            self.assertEqual(read_night(show_night(night)), night)
        self.assertEqual(read_night("  7    0 "), (7, 0))
        self.assertEqual(read_night("   "), ())

    def test_bad_nights(self):
        for text in ("a", "1 a", "1, 2", "(1,)", "1 2 #", "#", "1\t2", "~", "."):
            self.bad(read_night, text)
        for word in NO_INTEGERS:
            self.bad(read_night, word)
            self.bad(read_night, "1 " + word + " 2")

    def test_line_feeds_are_wrong(self):
        for text in ("\n", "a=1\n", "\na=1", "a=1\nb=2", "1\n2", "1\n", "\n1", "x\ny"):
            for read in (read_amounts, read_night):
                with self.assertRaises(Wrong) as caught:
                    read(text)
                self.assertEqual(caught.exception.place, 0)

    def test_what_is_returned_is_new(self):
        read_amounts("a=1")["a"] = 2
        self.assertEqual(read_amounts("a=1"), {"a": 1})


if __name__ == "__main__":
    unittest.main()
