"""[16]: nets."""
import random
import unittest

from nightstairs.nets import grown, is_through, most_through, source_side, value_of
from tests.brute import net_cuts, slow_through, some_net, some_through, spoiled

GREAT = 10 ** 12 - 1


def through_form(net, thing):
    """The definition of a THROUGH in other words."""
    many, arcs = net
    if type(thing) is not tuple or len(thing) != len(arcs) or not all(type(much) is int and much >= 0 for much in thing):
        return False
    if any(cap is not None and cap < much for much, (_, _, cap) in zip(thing, arcs)):
        return False
    return all(sum(much for much, arc in zip(thing, arcs) if arc[1] == number)
               == sum(much for much, arc in zip(thing, arcs) if arc[0] == number) for number in range(2, many))


def nets(seed, many, **sizes):
    chance = random.Random(seed)
    return [some_net(chance, **sizes) for _ in range(many)]


class Nets(unittest.TestCase):
    def least_cut(self, net):
        return min(worth for worth in net_cuts(net).values() if worth is not None)

    def test_the_greatest_value_is_that_of_the_least_cut(self):
        for net in nets(1, 400):
            through = most_through(net)
            self.assertTrue(through_form(net, through))
            self.assertIs(is_through(net, through), True)
            self.assertEqual(value_of(net, through), self.least_cut(net), net)

    def test_small_nets(self):
        self.assertEqual(most_through((2, ())), ())
        self.assertEqual(value_of((2, ()), ()), 0)
        self.assertEqual(source_side((2, ()), ()), (0,))
        self.assertEqual(most_through((2, ((0, 1, 3), (0, 1, 4), (0, 1, 0)))), (3, 4, 0))
        self.assertEqual(most_through((3, ((0, 2, None), (2, 1, 3)))), (3, 3))
        self.assertEqual(most_through((3, ((0, 2, 3), (2, 1, None)))), (3, 3))
        self.assertEqual(source_side((3, ((0, 2, None), (2, 1, 3))), (3, 3)), (0, 2))
        self.assertEqual(source_side((3, ((0, 2, 3), (2, 1, None))), (3, 3)), (0,))

    def test_arcs_into_the_source_and_out_of_the_sink(self):
        net = (3, ((1, 0, None), (0, 2, 2), (2, 0, 5), (1, 2, 5), (2, 1, 9)))
        self.assertEqual(value_of(net, most_through(net)), 2)
        self.assertEqual(value_of(net, (7, 0, 0, 0, 0)), -7)
        self.assertIs(is_through(net, (10 ** 40, 0, 0, 0, 0)), True)
        self.assertEqual(value_of(net, grown(net, (7, 0, 0, 3, 3))), 2)
        self.assertIs(is_through(net, (0, 0, 3, 3, 0)), True)
        self.assertEqual(value_of(net, (0, 0, 3, 3, 0)), -3)

    def test_grown_keeps_what_goes_into_the_sink(self):
        chance = random.Random(2)
        lesser = ringed = 0
        for net in nets(3, 600):
            through = some_through(chance, net)
            self.assertTrue(through_form(net, through))
            more = grown(net, through)
            self.assertTrue(through_form(net, more))
            self.assertEqual(value_of(net, more), self.least_cut(net))
            for (_, end, _), ahead, behind in zip(net[1], through, more):
                self.assertTrue(end != 1 or behind >= ahead, (net, through, more))
            lesser += value_of(net, through) < self.least_cut(net)
            ringed += any(through) and value_of(net, through) == 0
        self.assertGreater(lesser, 50)
        self.assertGreater(ringed, 20)

    def test_grown_from_the_greatest_is_the_same(self):
        for net in nets(4, 60):
            through = most_through(net)
            self.assertEqual(grown(net, through), through)

    def test_grown_keeps_rings(self):
        net = (4, ((2, 3, 4), (3, 2, 4), (0, 2, 1), (3, 1, 9)))
        self.assertIs(is_through(net, (3, 3, 0, 0)), True)
        more = grown(net, (3, 3, 0, 0))
        self.assertIs(is_through(net, more), True)
        self.assertEqual(value_of(net, more), 1)

    def test_the_source_side_is_the_least_of_the_least_cuts(self):
        chance = random.Random(5)
        for net in nets(6, 300):
            cuts = net_cuts(net)
            least = min(worth for worth in cuts.values() if worth is not None)
            side = source_side(net, slow_through(chance, net))
            self.assertEqual(cuts[side], least)
            for other, worth in cuts.items():
                self.assertTrue(worth != least or set(side) <= set(other))
            self.assertEqual(source_side(net, most_through(net)), side)

    def test_the_source_side_of_a_through_with_a_ring(self):
        net = (4, ((0, 2, 1), (2, 3, 5), (3, 2, 5), (3, 1, 0)))
        for ring in range(6):
            self.assertEqual(source_side(net, (0, ring, ring, 0)), (0, 2, 3))
        net = (4, ((0, 2, 0), (2, 3, 5), (3, 2, 5), (3, 1, 0)))
        for ring in range(6):
            self.assertEqual(source_side(net, (0, ring, ring, 0)), (0,))

    def test_is_through_of_any_value(self):
        chance = random.Random(7)
        net = (4, ((0, 2, 5), (2, 1, 2), (2, 3, 2), (3, 1, None), (0, 1, 1)))
        for one, good in ((net, (4, 2, 2, 2, 1)), (net, (0, 0, 0, 0, 0)), (net, (1, 1, 0, 0, 0)), ((2, ()), ()), ((3, ((2, 1, 0),)), (0,))):
            self.assertIs(is_through(one, good), True)
            for thing in spoiled(good):
                self.assertIs(is_through(one, thing), through_form(one, thing), thing)
        for one in nets(8, 40):
            good = some_through(chance, one)
            for thing in spoiled(good):
                self.assertIs(is_through(one, thing), through_form(one, thing), thing)

    def test_truths_are_no_numbers(self):
        net = (3, ((0, 2, 1), (2, 1, 1)))
        self.assertIs(is_through(net, (1, 1)), True)
        for thing in ((True, True), (1, True), (False, False), [1, 1], (1,), (1, 1, 0), (1, 1, 1), (2, 2), (1, 0), (-1, -1), None, 1):
            self.assertIs(is_through(net, thing), False)

    def test_great_numbers_take_no_more_steps(self):
        # Along ways that are not the shortest, each of these takes a step for every unit.
        net = (4, ((0, 2, GREAT), (0, 3, GREAT), (2, 3, 1), (3, 2, 1), (2, 1, GREAT), (3, 1, GREAT)))
        self.assertEqual(value_of(net, most_through(net)), 2 * GREAT)
        chance = random.Random(9)
        for _ in range(5):
            arcs = []
            for _ in range(800):
                start, end = chance.sample(range(80), 2)
                arcs.append((start, end, chance.randint(0, GREAT)))
            net = (80, tuple(arcs))
            through = most_through(net)
            self.assertTrue(through_form(net, through))
            side = source_side(net, through)
            self.assertNotIn(1, side)
            self.assertEqual(value_of(net, through), sum(cap for start, end, cap in arcs if start in side and end not in side))

    def test_scaled_nets_are_scaled(self):
        for many, arcs in nets(10, 100):
            scaled = (many, tuple((start, end, cap if cap is None else cap * GREAT) for start, end, cap in arcs))
            self.assertEqual(value_of(scaled, most_through(scaled)), GREAT * value_of((many, arcs), most_through((many, arcs))))

    def test_equal_results_each_time(self):
        for net in nets(11, 40):
            first = most_through(net)
            most_through(nets(12, 1)[0])
            self.assertEqual(most_through((net[0], tuple(tuple(arc) for arc in net[1]))), first)
            self.assertIsInstance(first, tuple)
            self.assertTrue(all(type(much) is int for much in first))


if __name__ == "__main__":
    unittest.main()
