"""[44]: chargers."""
import itertools
import unittest

from nightstairs.chargers import Charger


class Chargers(unittest.TestCase):
    def test_at_first(self):
        charger = Charger()
        self.assertEqual([charger.meter(), charger.last()], [0, None])

    def test_numbers_that_rise_come_again_and_fall(self):
        for numbers in itertools.product(range(4), repeat=5):
            charger, obeyed, meter = Charger(), [], 0
            for at, number in enumerate(numbers):
                told = all(number > other for other in obeyed)
                self.assertIs(charger.obey(number, at + 1), told)
                if told:
                    obeyed.append(number)
                    meter += at + 1
                self.assertEqual([charger.meter(), charger.last()], [meter, max(obeyed)])

    def test_the_number_0_and_amounts_of_0(self):
        charger = Charger()
        self.assertEqual([charger.obey(0, 0), charger.obey(0, 5), charger.meter(), charger.last()], [True, False, 0, 0])
        self.assertEqual([charger.obey(1, 0), charger.obey(1, 9), charger.obey(2, 10 ** 12), charger.meter(), charger.last()], [True, False, True, 10 ** 12, 2])

    def test_twins_led_apart(self):
        one = Charger()
        one.obey(3, 4)
        other = one.twin()
        self.assertEqual([other.meter(), other.last()], [4, 3])
        self.assertEqual([one.obey(5, 1), other.obey(3, 9), other.obey(4, 2), one.obey(4, 2)], [True, False, True, False])
        self.assertEqual([one.meter(), one.last(), other.meter(), other.last()], [5, 5, 6, 4])
        fresh = Charger().twin()
        self.assertEqual([fresh.meter(), fresh.last()], [0, None])

    def test_methods_are_its_own(self):
        for name in ("obey", "meter", "last", "twin"):
            self.assertIn(name, vars(Charger))


if __name__ == "__main__":
    unittest.main()
