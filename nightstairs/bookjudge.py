"""The judge of books: he charges and changes the yard, and adds up papers."""
from nightstairs.bare import are_alike
from nightstairs.books import last_yard, night_of, stands, stretch_books, sums_of, yard_behind, yards_of
from nightstairs.edits import is_edit
from nightstairs.forms import is_count, is_tuple_of, is_yard
from nightstairs.nomore import is_nomore, nomore_paper, said_by
from nightstairs.orderpapers import is_order_paper, order_paper


def is_book(thing):
    """Tell whether any value is a BOOK that STANDS."""
    if not is_tuple_of(2, thing) or not is_yard(thing[0]) or not isinstance(thing[1], tuple):
        return False
    yard, entries = thing
    for entry in entries:
        if not _is_entry(entry) or not stands(yard, entry):
            return False
        yard = yard_behind(yard, entry)
    return True


def _is_entry(thing):
    """Tell whether any value is an ENTRY, but for the amounts of an hour."""
    if is_tuple_of(2, thing):
        return thing[0] == "edit" and is_edit(thing[1])
    return is_tuple_of(3, thing) and thing[0] == "hour" and is_count(thing[1])


def book_papers(book):
    """Return BOOK PAPERS, None if the BOOK is not RIGHT."""
    papers = [order_paper(yard, supply, amounts) for yard, supply, amounts in _hours_in(book)]
    return None if None in papers else tuple(papers)


def _hours_in(book):
    """For each hour the YARD ahead, the SUPPLY and the amounts."""
    return [(yard,) + entry[1:] for yard, entry in zip(yards_of(book), book[1]) if entry[0] == "hour"]


def is_book_papers(book, thing):
    """Tell whether any value is BOOK PAPERS of a BOOK that stands."""
    hours = _hours_in(book)
    if not is_tuple_of(len(hours), thing):
        return False
    return all([is_order_paper(yard, supply, amounts, paper) for (yard, supply, amounts), paper in zip(hours, thing)])


def night_papers(book):
    """Return NIGHT PAPERS, None if there are none."""
    stretches = stretch_books(book)
    papers = [nomore_paper(stretch[0], night_of(stretch), len(stretch[1])) for stretch in stretches]
    # These papers say the least that any does, and none says less than what is charged.
    if not all([_says(stretch, paper) for stretch, paper in zip(stretches, papers)]):
        return None
    return tuple(papers)


def _says(stretch, paper):
    """Tell whether any value is a NO-MORE PAPER that says just what a STRETCH has charged."""
    yard, entries = stretch
    night = night_of(stretch)
    if not is_nomore(yard, night, len(night), paper):
        return False
    return said_by(yard, night, len(night), paper) == sum(sums_of(stretch))


def is_night_papers(book, thing):
    """Tell whether any value is NIGHT PAPERS of a BOOK that stands."""
    stretches = stretch_books(book)
    if not is_tuple_of(len(stretches), thing):
        return False
    return all([_says(stretch, paper) for stretch, paper in zip(stretches, thing)])


def same_behind(one, other):
    """Tell whether the last YARDS of two BOOKS have the same STAIRS."""
    return are_alike(last_yard(one), last_yard(other))
