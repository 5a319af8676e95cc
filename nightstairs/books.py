"""Books of nights: what came, what was ordered, and what was changed."""
from nightstairs.could import could
from nightstairs.edits import changed, is_edit
from nightstairs.errors import NoCable, NoCar, NoText, Short, Wrong
from nightstairs.keeping import short_hours
from nightstairs.nights import is_order
from nightstairs.orders import order_for
from nightstairs.yards import charged, joined_amounts, sum_of
from nightstairs.yardtexts import amounts_in, count_in, read_yard, show_amounts, show_yard, words_of


def yards_of(book):
    """Return the tuple of the YARDS of a BOOK that stands."""
    yard, entries = book
    yards = [yard]
    for entry in entries:
        yards.append(yard_behind(yards[-1], entry))
    return tuple(yards)


def yard_behind(yard, entry):
    """Return the YARD behind an ENTRY that stands."""
    if entry[0] == "edit":
        return changed(yard, (entry[1],))
    return charged(yard, entry[2])


def last_yard(book):
    """Return the last YARD of a BOOK that stands."""
    return yards_of(book)[-1]


def night_of(book):
    """Return the tuple of the SUPPLIES of all hours."""
    return tuple([entry[1] for entry in book[1] if entry[0] == "hour"])


def sums_of(book):
    """Return the tuple of the SUMS of the amounts of all hours."""
    return tuple([sum_of(entry[2]) for entry in book[1] if entry[0] == "hour"])


def stretches_of(book):
    """Return the ascending tuple of the STRETCHES."""
    entries = book[1]
    edits = [-1] + [at for at, entry in enumerate(entries) if entry[0] == "edit"] + [len(entries)]
    return tuple([(edit + 1, later) for edit, later in zip(edits, edits[1:]) if edit + 1 < later])


def stretch_books(book):
    """Return for each STRETCH the BOOK of its hours alone."""
    yards = yards_of(book)
    return [(yards[begin], book[1][begin:end]) for begin, end in stretches_of(book)]


def charged_in(book):
    """Return for each hour its index, what its STRETCH has charged by then, and what could have been."""
    rows = []
    for (begin, end), stretch in zip(stretches_of(book), stretch_books(book)):
        could_be = could(stretch[0], night_of(stretch))
        got = 0
        for at, amount in enumerate(sums_of(stretch)):
            got += amount
            rows.append((begin + at, got, could_be[at + 1]))
    return tuple(rows)


def first_wrong(book):
    """Return None if a BOOK is RIGHT, else the index of the first ENTRY that is not, and what is wrong."""
    yard, entries = book
    for at, entry in enumerate(entries):
        what = _wrong_in(yard, entry)
        if what is not None:
            return at, what
        yard = yard_behind(yard, entry)
    return None


def _wrong_in(yard, entry):
    """What is wrong with an ENTRY behind this YARD, None if it is right."""
    if entry[0] == "edit":
        return None if stands(yard, entry) else "edit"
    return short_hours(yard, entry[1], entry[2]) if stands(yard, entry) else "order"


def stands(yard, entry):
    """Tell whether an ENTRY can stand behind this YARD; the amounts of an hour may be any value."""
    if entry[0] == "hour":
        return is_order(yard, entry[1], entry[2])
    try:
        changed(yard, (entry[1],))
    except (NoCable, NoCar):
        return False
    return True


def with_hour(book, supply):
    """Return the BOOK with one hour more, as order_for tells."""
    return _with_entry(book, ("hour", supply, order_for(last_yard(book), supply)))


def with_order(book, supply, amounts):
    """Return the BOOK with one hour more, of an ORDER that has to be RIGHT."""
    hours = short_hours(last_yard(book), supply, amounts)
    if hours is not None:
        raise Short(hours)
    return _with_entry(book, ("hour", supply, amounts))


def with_edit(book, edit):
    """Return the BOOK with one edit more."""
    # What cannot be changed raises its error here.
    changed(last_yard(book), (edit,))
    return _with_entry(book, ("edit", edit))


def _with_entry(book, entry):
    yard, entries = book
    return copied((yard, entries + (entry,)))


def copied(book):
    """Return a BOOK that has none of the dicts of this one."""
    yard, entries = book
    return yard, tuple([entry[:2] + tuple([joined_amounts([row]) for row in entry[2:]]) for entry in entries])


def show_book(book):
    """Return the text of a BOOK that stands."""
    yard, entries = book
    head = show_yard(yard)
    rows = [] if head == "" else [head]
    return "\n".join(rows + ["night"] + [_show_entry(entry) for entry in entries])


def _show_entry(entry):
    if entry[0] == "edit":
        return " ".join(["edit"] + [f"{item}" for item in entry[1]])
    word, supply, amounts = entry
    return f"hour {supply}" if amounts == {} else f"hour {supply} {show_amounts(amounts)}"


def read_book(text):
    """Return the BOOK that stands of which this is the text."""
    if not isinstance(text, str):
        raise Wrong(0)
    lines = text.split("\n")
    # The yard ends ahead of the first line `night`, or with the last line if there is none.
    begin = [words_of(line) for line in lines + ["night"]].index(["night"])
    first = read_yard("\n".join(lines[:begin]))
    if begin == len(lines):
        raise NoText(begin)
    yard, entries = first, []
    for at, line in enumerate(lines):
        words = words_of(line)
        if at > begin and words != []:
            entry = _entry_in(words)
            if entry is None or not stands(yard, entry):
                raise NoText(at)
            entries.append(entry)
            yard = yard_behind(yard, entry)
    return first, tuple(entries)


def _entry_in(words):
    """The ENTRY that the words of a line show, None if they show none."""
    if words[0] == "edit":
        edit = edit_in(words[1:])
        return None if edit is None else ("edit", edit)
    if words[0] != "hour" or len(words) == 1:
        return None
    supply, amounts = count_in(words[1]), amounts_in(words[2:])
    return None if supply is None or amounts is None else ("hour", supply, amounts)


def edit_in(words):
    """Return the EDIT that words show, None if they show none."""
    if words[:1] == ["no"]:
        edit = (" ".join(words[:2]),) + tuple(words[2:])
    else:
        edit = tuple(words[:3]) + tuple([count_in(word) for word in words[3:]])
    return edit if is_edit(edit) else None
