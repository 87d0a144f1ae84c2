"""Texts of books: a row for each thing that a book was told, and the book that such rows tell."""

from royaltree.books import Book
from royaltree.errors import BadFraction, BadRow, RoyalError
from royaltree.fractions import FIGURES, NOTHING, fraction_in, fraction_text
from royaltree.kinds import is_name, is_number_from, is_part
from royaltree.parting import is_rows

# The least and the greatest number for each place of a row at which a number stands.
BOUNDS = {
    "days": (1, 400),
    "day": (0, 9999),
    "half": (0, 9999),
    "count": (1, 10 ** 6),
    "coins": (1, 10 ** 9),
    "length": (1, 1000),
    "upto": (1, 10 ** 6),
}
GREATEST_WORTH = 1000

# What stands at the places behind a row's first word.
FORMS = {
    "half": ("days",),
    "person": ("name",),
    "work": ("name",),
    "of": ("name", "name", "part"),
    "left": ("name", "name", "part"),
    "length": ("name", "name", "length"),
    "hand": ("name", "day", "name", "part"),
    "known": ("name", "day", "name"),
    "rate": ("name", "day", "worth"),
    "keep": ("name", "part"),
    "sold": ("day", "name", "count", "coins", "name"),
    "back": ("day", "name", "count", "coins", "name"),
    "advance": ("day", "name", "coins"),
    "wrong": ("day", "name", "coins"),
}
# A steps row has as many more steps as it likes to; how many are too many is_rows tells.
STEPS_FORM = ("name", "name", "part")
STEP_FORM = ("upto", "part")

# How many rows of a kind a book's text has at the most; sold and back, advance and wrong count together.
MOST_OF = {"person": 12, "work": 12, "hand": 30, "rate": 20, "sold": 40, "back": 40, "advance": 20, "wrong": 20}


def book_text(book):
    """A book as a text, the same for all books of which the same was told."""
    people, works = book.person_names(), book.work_names()
    rows = [("half", book.half_days())]
    rows += [("person", person) for person in people]
    rows += [("work", work) for work in works]
    rows += [work_row(work, row) for work in works for row in book.rows_of(work)]
    rows += [("hand", person) + hand for person in people for hand in book.hands_of(person)]
    rows += [("known", work) + book.known_of(work) for work in works if book.known_of(work) is not None]
    rows += [("rate",) + rate for rate in book.rate_list()]
    rows += [("keep", person, book.keep_of(person)) for person in people if book.keep_of(person) != NOTHING]
    rows += book.money_list()
    rows += book.debt_list()
    return "\n".join([" ".join([word_of(thing) for thing in row]) for row in rows])


def work_row(work, row):
    """One of a work's rows as the things that stand in its row of text."""
    kind, name, told = row
    if kind != "steps":
        return (kind, work, name, told)
    things = [thing for upto, part in told for thing in (part, upto)]
    # Behind the last part stands no upto.
    return (kind, work, name) + tuple(things[:-1])


def word_of(thing):
    """A text, a number or a fraction as it is written."""
    return fraction_text(thing) if isinstance(thing, tuple) else str(thing)


def book_of(text):
    """The Book that the rows of a text tell; refused with BadRow of the first row that is wrong."""
    teller = Teller()
    for number, row in enumerate(text.split("\n")):
        if row != "" and not teller.takes(row):
            raise BadRow(number)
    return teller.book


class Teller:
    """A Book as rows of text told it so far."""

    def __init__(self):
        self.book = Book()
        # The book itself can't tell a half of 182 days that was told from one that was not.
        self.half_told = False

    def takes(self, row):
        """Whether the row is so written and may be told behind those ahead; if so, the book was told it."""
        kind, *words = row.split(" ")
        told = told_by(form_of(kind, len(words)), words)
        if told is None:
            return False
        deed = DEEDS[kind]
        try:
            if not self.has_room(kind, told):
                return False
            deed(self.book, kind, told)
        except RoyalError:
            return False
        self.half_told = self.half_told or kind == "half"
        return True

    def has_room(self, kind, told):
        """Whether the bounds leave room for such a row, and it is no second one of what is told once."""
        if kind == "half":
            return not self.half_told
        if kind == "keep":
            return self.book.keep_of(told[0]) == NOTHING
        if kind in MOST_OF:
            return many_of(self.book, kind) < MOST_OF[kind]
        return kind == "known" or is_rows(rows_with(self.book, kind, told))


def many_of(book, kind):
    """How many rows there are that count together with those of this kind."""
    if kind == "person":
        return len(book.person_names())
    if kind == "work":
        return len(book.work_names())
    if kind == "hand":
        return sum([len(book.hands_of(person)) for person in book.person_names()])
    if kind == "rate":
        return len(book.rate_list())
    return len(book.money_list() if kind in ("sold", "back") else book.debt_list())


def form_of(kind, many):
    """What stands at the places of a row of this kind with so many words behind the first; None of no kind."""
    if kind == "steps":
        return STEPS_FORM + STEP_FORM * ((many - len(STEPS_FORM)) // len(STEP_FORM))
    return FORMS.get(kind)


def told_by(form, words):
    """What words tell at the places of a form, as a list; None where they are not so written."""
    if form is None or len(words) != len(form):
        return None
    told = [told_in(place, word) for place, word in zip(form, words)]
    return None if any([thing is None for thing in told]) else told


def told_in(place, word):
    """What a word tells at such a place; None where it is not so written."""
    if place in BOUNDS:
        least, most = BOUNDS[place]
        return number_within(word, least, most)
    if place == "name":
        return word if is_name(word) else None
    told = fraction_or_none(word)
    is_right = is_part(told) if place == "part" else is_worth(told)
    return told if is_right else None


def number_within(word, least, most):
    """The number from least to most that is written so in plain figures; None where there is none."""
    # Longer words are beyond most, and Python itself does not read very long ones.
    if not 1 <= len(word) <= len(str(most)) or not all([sign in FIGURES for sign in word]):
        return None
    number = int(word)
    return number if str(number) == word and least <= number <= most else None


def fraction_or_none(word):
    """The fraction that is written so; None where there is none."""
    try:
        return fraction_in(word)
    except BadFraction:
        return None


def is_worth(told):
    """Whether what a word tells is a fraction of numbers from 1 to 1,000."""
    return told is not None and all([is_number_from(number, 1, GREATEST_WORTH) for number in told])


def rows_with(book, kind, told):
    """The rows of the work that a row of text names, with that row behind them."""
    work, name, *things = told
    return book.rows_of(work) + ((kind, name, rates_of(things) if kind == "steps" else things[0]),)


def rates_of(things):
    """The rates of a steps row, of which the parts and uptos stand by turns."""
    return tuple(zip(things[1::2] + [None], things[::2]))


def tell_half(book, kind, told):
    """A row `half DAYS`."""
    book.put_half(told[0])


def tell_person(book, kind, told):
    """A row `person NAME`."""
    book.add_person(told[0])


def tell_work(book, kind, told):
    """A row `work NAME`."""
    book.add_work(told[0])


def tell_work_row(book, kind, told):
    """One of a work's rows: it stands behind those that the work has."""
    book.put_rows(told[0], rows_with(book, kind, told))


def tell_hand(book, kind, told):
    """A row `hand PERSON DAY NAME PART`."""
    person, day, name, part = told
    book.hand_on(person, day, name, part)


def tell_known(book, kind, told):
    """A row `known WORK DAY PERSON`."""
    work, day, person = told
    book.make_known(work, day, person)


def tell_rate(book, kind, told):
    """A row `rate CURRENCY DAY WORTH`."""
    currency, day, worth = told
    book.put_rate(currency, day, worth)


def tell_keep(book, kind, told):
    """A row `keep PERSON PART`."""
    person, part = told
    book.put_keep(person, part)


def tell_money(book, kind, told):
    """A row `sold DAY WORK COUNT AMOUNT CURRENCY`, or back."""
    day, work, count, amount, currency = told
    if kind == "sold":
        book.put_sold(day, work, count, amount, currency)
    else:
        book.put_back(day, work, count, amount, currency)


def tell_debt(book, kind, told):
    """A row `advance DAY PERSON COINS`, or wrong."""
    day, person, coins = told
    book.put_debt(kind, day, person, coins)


DEEDS = {
    "half": tell_half,
    "person": tell_person,
    "work": tell_work,
    "of": tell_work_row,
    "steps": tell_work_row,
    "left": tell_work_row,
    "length": tell_work_row,
    "hand": tell_hand,
    "known": tell_known,
    "rate": tell_rate,
    "keep": tell_keep,
    "sold": tell_money,
    "back": tell_money,
    "advance": tell_debt,
    "wrong": tell_debt,
}
