"""Texts of yards, amounts and nights."""
from nightstairs.errors import NoText, Wrong
from nightstairs.forms import is_cable, is_car, is_name


def words_of(line):
    """Return the list of the words of a line; blanks alone part them."""
    return [word for word in line.split(" ") if word != ""]


def count_in(word):
    """Return the integer from 0 on that a word shows as Python does, None if it shows none."""
    if word == "" or not all([sign in "0123456789" for sign in word]):
        return None
    if word[0] == "0" and word != "0":
        return None
    return int(word)


def show_yard(yard):
    """Return the text of a YARD."""
    cables, cars = yard
    rows = [f"cable {start} {end} {cap}" for start, end, cap in cables]
    rows.extend([f"car {name} {knot} {rate} {need}" for name, knot, rate, need in cars])
    return "\n".join(rows)


def read_yard(text):
    """Return the YARD that a text shows."""
    if not isinstance(text, str):
        raise Wrong(0)
    cables, cars = {}, {}
    for at, line in enumerate(text.split("\n")):
        words = words_of(line.partition("#")[0])
        if words != [] and not _took_line(cables, cars, words):
            raise NoText(at)
    return tuple([cables[ends] for ends in sorted(cables)]), tuple([cars[name] for name in sorted(cars)])


def _took_line(cables, cars, words):
    """Put the CABLE or CAR that words tell to the others; tell whether they told one more."""
    if words[0] == "cable" and len(words) == 4:
        cable = (words[1], words[2], count_in(words[3]))
        return is_cable(cable) and _put_new(cables, (words[1], words[2]), cable)
    if words[0] == "car" and len(words) == 5:
        car = (words[1], words[2], count_in(words[3]), count_in(words[4]))
        return is_car(car) and _put_new(cars, words[1], car)
    return False


def _put_new(rows, key, row):
    if key in rows:
        return False
    rows[key] = row
    return True


def show_amounts(amounts):
    """Return the text of AMOUNTS."""
    return " ".join([f"{name}={amounts[name]}" for name in sorted(amounts)])


def read_amounts(text):
    """Return the AMOUNTS that a text shows."""
    if not isinstance(text, str) or "\n" in text:
        raise Wrong(0)
    amounts = amounts_in(words_of(text))
    if amounts is None:
        raise NoText(0)
    return amounts


def amounts_in(words):
    """Return the AMOUNTS that words show, None if they show none."""
    amounts = {}
    for word in words:
        name, _, digits = word.partition("=")
        amount = count_in(digits)
        if not is_name(name) or name in amounts or amount is None or amount == 0:
            return None
        amounts[name] = amount
    return {name: amounts[name] for name in sorted(amounts)}


def show_night(night):
    """Return the text of a NIGHT."""
    return " ".join([f"{supply}" for supply in night])


def read_night(text):
    """Return the NIGHT that a text shows."""
    if not isinstance(text, str) or "\n" in text:
        raise Wrong(0)
    night = [count_in(word) for word in words_of(text)]
    if None in night:
        raise NoText(0)
    return tuple(night)
