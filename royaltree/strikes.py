"""Struck out: a book as if a work had not been, and what is otherwise without it."""

from royaltree.ledger import Ledger


def struck_book(book, work):
    """A Book of its own without the work; refused with NoName where there is none."""
    struck = book.twin_book()
    struck.drop_work(work)
    return struck


def strike_list(book, work, day):
    """Tuples (name, with, without), names rising, of whom ledgers with and without the work tell unlike coins."""
    struck = struck_book(book, work)
    # The book's own ledger comes first: of two refusals it is the one told.
    ledger = Ledger(book, day)
    without = Ledger(struck, day)
    rows = [(person, ledger.due_of(person), without.due_of(person)) for person in struck.person_names()]
    rows += [(other, ledger.waits_of(other), without.waits_of(other)) for other in struck.work_names()]
    return [row for row in sorted(rows) if row[1] != row[2]]
