"""Hard yards for the tests, and what is best there, by going through all HARD PLANS."""
from nightstairs.forms import is_yard
from tests import brute


def is_hard(thing):
    if type(thing) is not tuple or len(thing) != 3 or type(thing[0]) is not str or not is_yard(thing[1]):
        return False
    word, yard, numbers = thing
    if type(numbers) is not dict or sorted(map(str, numbers)) != [car[0] for car in yard[1]]:
        return False
    if not all(type(name) is str and type(number) is int for name, number in numbers.items()):
        return False
    if word == "firsts":
        return all(0 <= numbers[car[0]] <= car[3] for car in yard[1])
    return word == "leaves" and all(number > 0 for number in numbers.values())


def some_hard(chance, word, great=3, **sizes):
    yard = brute.some_yard(chance, great=great, **sizes)
    # Small needs, so that all plans can be gone through.
    yard = yard[0], tuple(car[:3] + (chance.randint(0, great),) for car in yard[1])
    if word == "leaves":
        return word, yard, {car[0]: chance.randint(1, 4) for car in yard[1]}
    return word, yard, {car[0]: chance.randint(0, car[3]) for car in yard[1]}


def tight_hard(chance, word):
    """A hard yard whose cars need more than an hour gives them, so that it often has WITNESSES."""
    cables = (("feed", "k", chance.randint(1, 3)), ("k", "m", chance.randint(1, 2)))
    cars = []
    for name in "abc"[:chance.randint(2, 3)]:
        cars.append((name, chance.choice(["feed", "k", "m"]), chance.randint(1, 2), chance.randint(1, 3)))
    yard = cables, tuple(cars)
    if word == "leaves":
        return word, yard, {car[0]: chance.randint(1, 4) for car in cars}
    return word, yard, {car[0]: chance.choice([0, car[3], chance.randint(0, car[3])]) for car in cars}


def is_hard_plan(hard, night, plan):
    word, yard, numbers = hard
    if not brute.is_plan(yard, night, plan):
        return False
    if word == "leaves":
        return all(hour < numbers[name] for hour, amounts in enumerate(plan) for name in amounts)
    return True


def aim(hard, rows):
    """The AIM of a plan of rows."""
    word, yard, numbers = hard
    got = [sum(row[at] for row in rows) for at in range(len(yard[1]))]
    if word == "leaves":
        return (sum(got),)
    return sum(min(numbers[car[0]], much) for car, much in zip(yard[1], got)), sum(got)


def hard_plans(hard, night, known=None):
    """All HARD PLANS, as tuples of rows of the amounts of all CARS."""
    word, yard, numbers = hard
    known = known or brute.order_rows(yard)
    plans = [((), yard)]
    for hour, supply in enumerate(night):
        later = []
        for plan, left in plans:
            for row in brute.orders(left, supply, known):
                amounts = brute.amounts_of(left, row)
                if word == "firsts" or all(numbers[name] > hour for name in amounts):
                    later.append((plan + (row,), brute.less(left, amounts)))
        plans = later
    return [plan for plan, _ in plans]


def best(hard, night, known=None):
    """The best AIM, the sorted first rows of all BEST HARD PLANS, and these plans."""
    plans = hard_plans(hard, night, known)
    aims = [aim(hard, plan) for plan in plans]
    greatest = tuple(max(place) for place in zip(*aims))
    found = [plan for plan, told in zip(plans, aims) if told == greatest]
    return greatest, sorted({plan[0] for plan in found if plan}), found
