"""[35]: promises that are kept by what is sure, and the dearest one."""
import itertools
import random
import unittest

from nightstairs.could import could
from nightstairs.forms import is_amounts
from nightstairs.nights import sums_of
from nightstairs.nomore import nomore_paper
from nightstairs.orders import orders_for
from nightstairs.promises import dearest, dearest_paper, is_dearest, is_kept, promised, unkept_paper, worth_of
from nightstairs.stairs import stairs
from tests import brute
from tests.brute import EMPTY, ODD, YARD, full_yard, great_yard, roomy_yards, some_night, some_yards, spoiled

GREAT = 10 ** 12
SMALL = ((("a", "b", 1), ("feed", "a", 3)), (("bus", "a", 2, 5), ("van", "b", 1, 2)))
WORTHS = {"bus": 1, "van": 3}


def promises_of(yard):
    """All AMOUNTS that FIT the yard."""
    for row in itertools.product(*[range(car[3] + 1) for car in yard[1]]):
        yield brute.amounts_of(yard, row)


def kept(yard, promise, sure, known=None):
    return brute.could_at_end(brute.with_needs(yard, promise), sure, known) == sum(promise.values())


def value(promise, worths):
    return sum(worths[name] * amount for name, amount in promise.items())


def some_worths(chance, yard):
    return {car[0]: chance.choice([0, 1, 2, 2, chance.randint(0, 9)]) for car in yard[1]}


def rank_needs(yard, worths, least):
    return {car[0]: car[3] for car in yard[1] if worths[car[0]] >= least}


def dearest_form(yard, worths, sure, promise, thing):
    """The definition of a DEAREST PAPER and of the PROMISE that it is for."""
    if not is_amounts(yard, promise) or any(promise.get(name, 0) > need for name, _, _, need in yard[1]):
        return False
    if any(worths[name] == 0 for name in promise) or not kept(yard, promise, sure):
        return False
    ranks = sorted({worth for worth in worths.values() if worth}, reverse=True)
    if type(thing) is not tuple or len(thing) != len(ranks):
        return False
    for least, paper in zip(ranks, thing):
        needs = rank_needs(yard, worths, least)
        if not brute.is_nomore(yard, sure, len(sure), paper):
            return False
        said = brute.nomore_said(brute.with_needs(yard, needs), sure, len(sure), paper)
        if said != sum(amount for name, amount in promise.items() if name in needs):
            return False
    return True


class Promises(unittest.TestCase):
    def test_promised(self):
        self.assertEqual(promised(YARD, {"van": 2}), (YARD[0], (("bus", "a", 4, 0), ("van", "b", 2, 2))))
        self.assertEqual([promised(YARD, {})[1], promised(EMPTY, {})], [(("bus", "a", 4, 0), ("van", "b", 2, 0)), EMPTY])
        self.assertEqual(promised(YARD, {"van": 5, "bus": 6}), YARD)

    def test_all_promises_of_small_yards(self):
        chance = random.Random(1)
        answers = set()
        for yard in some_yards(2, 25, cars=2, knots=2, great=2) + roomy_yards(3, 3):
            known, sure = brute.limits(yard), some_night(chance, hours=4, most=6)
            for promise in list(promises_of(yard))[::chance.randint(1, 3)][:60]:
                meant = kept(yard, promise, sure, known)
                self.assertIs(is_kept(yard, promise, sure), meant)
                paper = unkept_paper(yard, promise, sure)
                if meant:
                    self.assertIsNone(paper)
                else:
                    self.assertTrue(brute.is_nomore(yard, sure, len(sure), paper))
                    said = brute.nomore_said(brute.with_needs(yard, promise), sure, len(sure), paper)
                    self.assertLess(said, sum(promise.values()))
                answers.add(meant)
        self.assertEqual(answers, {True, False})

    def test_kept_just_so_and_one_unit_too_much(self):
        self.assertEqual([is_kept(SMALL, {"bus": many, "van": 2}, (3, 3)) for many in (3, 4, 5)], [True, True, False])
        self.assertEqual([is_kept(SMALL, {"bus": 4, "van": 2}, sure) for sure in ((3, 3), (2, 3), (3, 2, 1), (6, 6), (1, 5), (5, 1))],
                         [True, False, True, True, False, False])
        self.assertEqual([is_kept(SMALL, {}, ()), is_kept(SMALL, {"van": 1}, ()), is_kept(EMPTY, {}, (0,)), is_kept(SMALL, {"van": 1}, (0, 1))],
                         [True, False, True, True])
        self.assertEqual([unkept_paper(SMALL, {}, ()), unkept_paper(SMALL, {"van": 1}, ())[0]], [None, ()])

    def test_sure_in_any_order_and_more_besides(self):
        chance = random.Random(4)
        for yard in some_yards(5, 30):
            sure = some_night(chance, hours=5, most=6)
            promise = {name: chance.randint(1, need) for name, _, _, need in yard[1] if need and chance.random() < 0.7}
            answer = is_kept(yard, promise, sure)
            others = tuple(chance.sample(sure, len(sure)))
            self.assertIs(is_kept(yard, promise, others), answer)
            if answer:
                at = chance.randint(0, len(sure))
                more = others[:at] + (chance.randint(0, 5),) + others[at:]
                self.assertIs(is_kept(yard, promise, more), True)
                self.assertEqual(sums_of(orders_for(promised(yard, promise), more))[-1], sum(promise.values()))

    def test_worth_of(self):
        self.assertEqual([worth_of({}, WORTHS), worth_of({"bus": 2}, WORTHS), worth_of({"van": 2, "bus": 1}, WORTHS)], [0, 2, 7])
        self.assertEqual(worth_of({"bus": GREAT}, {"bus": GREAT, "van": 0}), GREAT * GREAT)


class Dearest(unittest.TestCase):
    def check(self, yard, worths, sure, most_promises=None):
        known = brute.limits(yard)
        told = dearest(yard, worths, sure)
        self.assertTrue(kept(yard, told, sure, known))
        self.assertEqual(list(told), sorted(told))
        # One car after the other gets the most with which the promise is kept.
        promise, ahead = {}, sorted((-worths[car[0]], car[0], car[3]) for car in yard[1] if worths[car[0]])
        for _, name, need in ahead:
            most = max(many for many in range(need + 1) if kept(yard, {**promise, name: many}, sure, known))
            promise.update({name: most} if most else {})
        self.assertEqual(told, promise)
        papers = dearest_paper(yard, worths, sure)
        self.assertTrue(dearest_form(yard, worths, sure, told, papers))
        self.assertIs(is_dearest(yard, worths, sure, told, papers), True)
        return told, papers, known

    def test_all_promises_of_small_yards(self):
        chance = random.Random(6)
        for yard in some_yards(7, 30, cars=3, knots=2, great=2) + roomy_yards(8, 4):
            worths, sure = some_worths(chance, yard), some_night(chance, hours=3, most=5)
            told, papers, known = self.check(yard, worths, sure)
            rows = [promise for promise in promises_of(yard) if value(promise, worths) > value(told, worths)]
            # None that is worth more is kept.
            for promise in chance.sample(rows, min(40, len(rows))):
                self.assertFalse(kept(yard, promise, sure, known))
            for promise in chance.sample(list(promises_of(yard)), min(20, len(list(promises_of(yard))))):
                self.assertIs(is_dearest(yard, worths, sure, promise, papers), dearest_form(yard, worths, sure, promise, papers))

    def test_worths_alike_and_0(self):
        plain = ((), (("a", "feed", 3, 4), ("b", "feed", 3, 4), ("c", "feed", 3, 4)))
        for worths, promise, many in (({"a": 1, "b": 1, "c": 1}, {"a": 4, "b": 2}, 1), ({"a": 0, "b": 1, "c": 1}, {"b": 4, "c": 2}, 1),
                                      ({"a": 1, "b": 2, "c": 3}, {"b": 2, "c": 4}, 3), ({"a": 0, "b": 0, "c": 0}, {}, 0),
                                      ({"a": 2, "b": 1, "c": 2}, {"a": 4, "c": 2}, 2), ({"a": 0, "b": 0, "c": 5}, {"c": 4}, 1)):
            told, papers, _ = self.check(plain, worths, (3, 3))
            self.assertEqual((told, len(papers)), (promise, many))
        self.assertEqual([dearest(plain, {"a": 0, "b": 0, "c": 9}, (1, 1, 9)), dearest(plain, {"a": 1, "b": 1, "c": 1}, ())], [{"c": 4}, {}])
        self.assertEqual([dearest(EMPTY, {}, (3,)), dearest_paper(EMPTY, {}, (3,)), is_dearest(EMPTY, {}, (3,), {}, ())], [{}, (), True])

    def test_the_papers_are_of_these_needs(self):
        papers = dearest_paper(SMALL, WORTHS, (2, 1))
        self.assertEqual(papers, (nomore_paper(promised(SMALL, {"van": 2}), (2, 1), 2), nomore_paper(SMALL, (2, 1), 2)))

    def test_parts_otherwise(self):
        sure, promise = (2, 1), {"bus": 1, "van": 2}
        papers = dearest_paper(SMALL, WORTHS, sure)
        for other in ({"bus": 2, "van": 1}, {"van": 2}, {"bus": 1, "van": 1}, {"bus": 3}, {}, {"bus": 2, "van": 2}, {"bus": 1, "van": 3}, {"cart": 1}, None,
                      [("bus", 1), ("van", 2)], papers):
            self.assertIs(is_dearest(SMALL, WORTHS, sure, other, papers), False, other)
        self.assertIs(is_dearest(SMALL, WORTHS, sure, {"van": 2, "bus": 1}, papers), True)
        for thing in (papers[:1], papers[1:], papers[::-1], papers * 2, list(papers), (), None, promise, papers[:1] + (((), (), ()),)):
            self.assertIs(is_dearest(SMALL, WORTHS, sure, promise, thing), False, thing)
        for thing in spoiled(papers):
            self.assertIs(is_dearest(SMALL, WORTHS, sure, promise, thing), dearest_form(SMALL, WORTHS, sure, promise, thing), thing)
        for other in [*ODD, *spoiled(promise)]:
            self.assertIs(is_dearest(SMALL, WORTHS, sure, other, papers), bool(dearest_form(SMALL, WORTHS, sure, other, papers)), other)

    def test_nothing_for_a_worth_of_0(self):
        worths = {"bus": 0, "van": 3}
        papers = dearest_paper(SMALL, worths, (2, 2))
        self.assertEqual([is_dearest(SMALL, worths, (2, 2), promise, papers) for promise in ({"van": 2}, {"bus": 1, "van": 2}, {"van": 1}, {"bus": 1})],
                         [True, False, False, False])

    def test_a_promise_that_is_not_kept(self):
        # The papers would fit it: only that it is not kept speaks against it.
        worths, yard = {"a": 1, "b": 1}, ((), (("a", "feed", 1, 4), ("b", "feed", 3, 4)))
        papers = dearest_paper(yard, worths, (2, 2))
        self.assertEqual([is_dearest(yard, worths, (2, 2), promise, papers) for promise in ({"a": 2, "b": 2}, {"a": 3, "b": 1}, {"b": 4})],
                         [True, False, True])

    def test_a_promise_that_does_not_fit(self):
        yard = ((), (("bus", "feed", 9, 5),))
        self.assertIs(is_dearest(yard, {"bus": 1}, (6,), {"bus": 6}, (((), ("bus",), ()),)), False)
        self.assertIs(is_dearest(yard, {"bus": 1}, (6,), {"bus": 5}, (((0,), (), ()),)), True)

    def test_great_yards(self):
        chance = random.Random(9)
        for yard in (great_yard(1), full_yard(1)):
            first = stairs(yard)[0][0]
            sure = tuple(chance.randint(0, first) for _ in range(48))
            worths = {car[0]: chance.choice([0, 1, chance.randint(0, GREAT - 1)]) for car in yard[1]}
            promise, papers = dearest(yard, worths, sure), dearest_paper(yard, worths, sure)
            self.assertIs(is_dearest(yard, worths, sure, promise, papers), True)
            self.assertLessEqual(sum(promise.values()), could(yard, sure)[-1])

    def test_what_is_returned_is_new(self):
        dearest(SMALL, WORTHS, (2, 1)).clear()
        self.assertEqual(dearest(SMALL, WORTHS, (2, 1)), {"bus": 1, "van": 2})
        self.assertEqual(WORTHS, {"bus": 1, "van": 3})


if __name__ == "__main__":
    unittest.main()
