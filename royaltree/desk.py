"""A desk: a text of rows and asks, and what it answers to the asks."""

from royaltree.errors import BadRow, Endless
from royaltree.flows import share_list
from royaltree.fractions import fraction_text, whole_of
from royaltree.ledger import Ledger
from royaltree.statements import statement_list
from royaltree.strikes import strike_list
from royaltree.texts import Teller, told_by

# What stands at the places behind an ask's first word.
ASK_FORMS = {
    "flows": ("name", "day"),
    "due": ("name", "day"),
    "waits": ("name", "day"),
    "came": ("day",),
    "statement": ("half",),
    "strike": ("name", "day"),
}


def run(text):
    """The answers to a text's asks, each of the book as the rows ahead tell it; refused with BadRow."""
    teller = Teller()
    asks = []
    for number, row in enumerate(text.split("\n")):
        kind, *words = row.split(" ")
        if kind in ASK_FORMS:
            told = told_by(ASK_FORMS[kind], words)
            if told is None or not is_there(teller.book, kind, told[0]):
                raise BadRow(number)
            # A wrong row goes ahead of all answers, so asks wait for the last row, with the book as it stands.
            asks.append((teller.book.twin_book(), kind, told))
        elif row != "" and not teller.takes(row):
            raise BadRow(number)
    return [answer_to(book, kind, told) for book, kind, told in asks]


def is_there(book, kind, name):
    """Whether the book has what an ask of this kind is of."""
    if kind == "flows":
        return book.has_name(name)
    if kind == "due":
        return name in book.person_names()
    return kind in ("came", "statement") or name in book.work_names()


def answer_to(book, kind, told):
    """The answer to one ask."""
    answer = ANSWERS[kind]
    try:
        text = answer(book, told)
    except Endless as refusal:
        return " ".join(["endless"] + list(refusal.names))
    return text if text != "" else "-"


def flows_answer(book, told):
    """Where a coin that comes to the name stays, with nothing sold."""
    name, day = told
    return " ; ".join([f"{other} {fraction_text(share)}" for other, share in share_list(book, name, day, {})])


def due_answer(book, told):
    """What the person has behind the day: OPEN KEPT WORKED PAID WRONG ADVANCE."""
    person, day = told
    ledger = Ledger(book, day)
    wrong, advance = ledger.debt_of(person)
    numbers = [whole_of(ledger.open_of(person)), whole_of(ledger.kept_of(person)), ledger.worked_of(person),
               ledger.paid_of(person), wrong, advance]
    return " ".join([str(number) for number in numbers])


def waits_answer(book, told):
    """What waits at the work behind the day."""
    work, day = told
    return str(whole_of(Ledger(book, day).waits_of(work)))


def came_answer(book, told):
    """What came in up to the day."""
    return str(whole_of(Ledger(book, told[0]).came_in()))


def statement_answer(book, told):
    """What was worked off and paid in the half, person by person."""
    return " ; ".join([f"{row[0]} {row[3]} {row[4]}" for row in statement_list(book, told[0])])


def strike_answer(book, told):
    """Of whom all would be otherwise without the work."""
    work, day = told
    return " ".join([row[0] for row in strike_list(book, work, day)])


ANSWERS = {
    "flows": flows_answer,
    "due": due_answer,
    "waits": waits_answer,
    "came": came_answer,
    "statement": statement_answer,
    "strike": strike_answer,
}
