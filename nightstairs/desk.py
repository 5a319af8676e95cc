"""A desk that leads a BOOK, line by line."""
from nightstairs.bookjudge import book_papers, is_book_papers, is_night_papers, night_papers
from nightstairs.books import charged_in, copied, edit_in, last_yard, night_of, show_book
from nightstairs.books import with_edit, with_hour, with_order
from nightstairs.could import could
from nightstairs.errors import NoCommand, Short, Wrong
from nightstairs.forms import is_yard
from nightstairs.nights import is_order
from nightstairs.reach import reach
from nightstairs.stairs import stairs
from nightstairs.yardtexts import amounts_in, count_in, show_amounts, show_night, show_yard, words_of

_MOST_DIGITS = 12
_MOST_HOURS = 48


def _number_in(word):
    """The integer N that a word shows."""
    number = count_in(word)
    if number is None or len(word) > _MOST_DIGITS:
        raise NoCommand()
    return number


def _check_many(words, many):
    """Raise NoCommand if there are not so many words."""
    if len(words) != many:
        raise NoCommand()


def _hour(book, words):
    _check_many(words, 1)
    later = with_hour(book, _number_in(words[0]))
    return later, [show_amounts(later[1][-1][2])]


def _order(book, words):
    if words == []:
        raise NoCommand()
    supply, amounts = _number_in(words[0]), amounts_in(words[1:])
    if amounts is None:
        raise NoCommand()
    if not is_order(last_yard(book), supply, amounts):
        return book, ["no order"]
    try:
        return with_order(book, supply, amounts), ["done"]
    except Short as short:
        return book, [f"short {short.hours}"]


def _edit(book, words):
    edit = edit_in(words)
    if edit is None:
        raise NoCommand()
    return with_edit(book, edit), ["done"]


def _undo(book, words):
    _check_many(words, 0)
    yard, entries = book
    if entries == ():
        return book, ["nothing"]
    return (yard, entries[:-1]), ["done"]


def _tell_yard(book, words):
    _check_many(words, 0)
    text = show_yard(last_yard(book))
    return [] if text == "" else text.split("\n")


def _tell_book(book, words):
    _check_many(words, 0)
    return show_book(book).split("\n")


def _tell_night(book, words):
    _check_many(words, 0)
    return [show_night(night_of(book))]


def _tell_stairs(book, words):
    _check_many(words, 0)
    return [f"{step} {times}" for step, times in stairs(last_yard(book))]


def _tell_reach(book, words):
    _check_many(words, 1)
    return [f"{reach(last_yard(book), _number_in(words[0]))}"]


def _tell_could(book, words):
    if len(words) > _MOST_HOURS:
        raise NoCommand()
    night = tuple([_number_in(word) for word in words])
    return [f"{most}" for most in could(last_yard(book), night)]


def _tell_charged(book, words):
    _check_many(words, 0)
    return [f"{at} {got} {most}" for at, got, most in charged_in(book)]


def _tell_paper(book, words):
    _check_many(words, 0)
    taken = is_book_papers(book, book_papers(book)) and is_night_papers(book, night_papers(book))
    return ["taken" if taken else "not taken"]


# These return the BOOK behind them and an answer, the others an answer alone.
_CHANGES = {"hour": _hour, "order": _order, "edit": _edit, "undo": _undo}
_QUESTIONS = {
    "yard": _tell_yard, "book": _tell_book, "night": _tell_night, "stairs": _tell_stairs, "reach": _tell_reach,
    "could": _tell_could, "charged": _tell_charged, "paper": _tell_paper,
}


class Desk:
    """A BOOK that begins with a YARD, and all of whose entries are right."""

    def __init__(self, yard):
        if not is_yard(yard):
            raise Wrong(0)
        self._book = (yard, ())

    def __eq__(self, other):
        return isinstance(other, Desk) and self._book == other._book

    def execute(self, line):
        """Do what a line says; return the list of strings that answers it."""
        if not isinstance(line, str):
            raise Wrong(0)
        words = words_of(line)
        if "\n" in line or words == []:
            raise NoCommand()
        word, rest = words[0], words[1:]
        if word in _CHANGES:
            change = _CHANGES[word]
            book, answer = change(self._book, rest)
            self._book = book
            return answer
        if word not in _QUESTIONS:
            raise NoCommand()
        question = _QUESTIONS[word]
        return question(self._book, rest)

    def book(self):
        """Return the BOOK."""
        return copied(self._book)

    def twin(self):
        """Return an independent Desk in the same state."""
        other = Desk(self._book[0])
        other._book = self.book()
        return other
