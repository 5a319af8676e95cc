"""Hours by LETTERS between PARTS, some of which may be lost."""
from nightstairs.partrows import dealt, order_by_shares, rows_told, steps_in
from nightstairs.parts import all_parts, charged_part, part_of, parts_in
from nightstairs.rows import taken


def hour_of(part, supply, lost):
    """Return what all CARS get in an hour, all LETTERS that are written, and the LOT of the HEARD PARTS."""
    amounts, told, gives, shares = _hour(part, steps_in(part), supply, lost)
    names = parts_in(part)
    rows = [("row", name, told[name][1]) for name in names[1:]]
    written = [("give", name, gives[name]) for name in names if name in gives]
    return amounts, tuple(rows + written), _heard_in(part, lost)


def _hour(part, steps, supply, lost):
    """What all CARS get, the rows that are told, what is given, and what the YARDS get; steps are their STAIRS."""
    told = rows_told(part, steps, lost)
    shares, gives = dealt(part, told, supply, lost)
    return order_by_shares(part, steps, shares), told, gives, shares


def _heard_in(part, lost):
    """The LOT of the names of the HEARD PARTS."""
    heard = [part[0]]
    for name, cap, yard, parts in all_parts(part):
        if name in heard:
            heard.extend([below[0] for below in parts if ("row", below[0]) not in lost])
    return tuple(sorted(heard))


def heard_part(part, heard):
    """Return the PART without all PARTS that are not in heard."""
    return part_of(part, heard)


def night_of(part, night, losses):
    """Return the list of what all CARS get in the hours of a NIGHT, and the PART behind them."""
    steps = steps_in(part)
    rows = []
    for supply, lost in zip(night, losses):
        amounts, _, _, shares = _hour(part, steps, supply, lost)
        rows.append(amounts)
        part = charged_part(part, amounts)
        # Each YARD's own order is RIGHT for its share.
        steps = {name: taken(steps[name], shares.get(name, 0)) for name in steps}
    return rows, part
