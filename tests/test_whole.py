"""What the document promises over the whole program: the parts of it fit one another, whatever the order of telling."""

import importlib
import inspect
import random
import unittest
from fractions import Fraction

from plaintexts import drawn_order
from reckoning import PEOPLE, WORKS, book_with, drawn_ending_book, pair, told_by, told_of
from royaltree import errors
from royaltree.books import Book
from royaltree.desk import run
from royaltree.errors import BadRow, Endless, RoyalError
from royaltree.flows import share_list
from royaltree.ledger import Ledger
from royaltree.statements import shows_statements, statement_list
from royaltree.strikes import strike_list, struck_book
from royaltree.texts import book_of, book_text

NOUGHT = (0, 1)

# The interface: each file's functions with how many arguments they take, and the methods of its classes.
FUNCTIONS = {
    "fractions": {"fraction_of": 2, "sum_of": 1, "taken_from": 2, "product_of": 2, "by_part": 2, "is_less": 2,
                  "whole_of": 1, "fraction_text": 1, "fraction_in": 1},
    "parting": {"is_rows": 1, "too_much": 1, "parts_at": 2, "waits_at": 2, "unit_stretches": 3},
    "flows": {"leads_from": 4, "stays_at": 4, "flow_list": 4, "share_list": 4},
    "flowcheck": {"shows_flow": 5},
    "ledger": {"credit_list": 2},
    "statements": {"statement_list": 2, "shows_statements": 2},
    "strikes": {"struck_book": 2, "strike_list": 3},
    "texts": {"book_text": 1, "book_of": 1},
    "desk": {"run": 1},
}
METHODS = {
    ("books", "Book"): {
        "__init__": 0, "add_person": 1, "add_work": 1, "person_names": 0, "work_names": 0, "put_rows": 2, "rows_of": 1,
        "hand_on": 4, "hands_of": 1, "make_known": 3, "known_of": 1, "put_rate": 3, "worth_of": 2, "rate_list": 0,
        "put_keep": 2, "keep_of": 1, "put_half": 1, "half_days": 0, "put_sold": 5, "put_back": 5, "money_list": 0,
        "put_debt": 4, "debt_list": 0, "twin_book": 0},
    ("ledger", "Ledger"): {
        "__init__": 2, "open_of": 1, "kept_of": 1, "debt_of": 1, "worked_of": 1, "paid_of": 1, "due_of": 1,
        "waits_of": 1, "came_in": 0},
}
REFUSALS = ("BadFraction", "Taken", "NoName", "TooMuch", "NoRate", "NoneLeft", "Endless", "BadRow")


def deeds_of(book):
    """All that a book was told as deeds (name, arguments), those of which the order counts in lists of their own."""
    deeds = [[("put_half", book.half_days())]]
    for work in book.work_names():
        deeds.append([("put_rows", work, book.rows_of(work))])
        if book.known_of(work):
            deeds.append([("make_known", work, *book.known_of(work))])
    for person in book.person_names():
        deeds += [[("hand_on", person, *hand)] for hand in book.hands_of(person)]
        deeds.append([("put_keep", person, book.keep_of(person))])
    for day in sorted({row[1] for row in book.debt_list()}):
        deeds.append([("put_debt", *row) for row in book.debt_list() if row[1] == day])
    return deeds


def told_anew(draw, book):
    """A Book that was told the same in another order."""
    other = book_with(" ".join(draw.sample(book.person_names(), len(book.person_names()))),
                      " ".join(draw.sample(book.work_names(), len(book.work_names()))))
    groups = deeds_of(book)
    draw.shuffle(groups)
    free = [deed for group in groups for deed in group]
    # Rates stand ahead of money, and money of one day counts as it is told.
    money = [("put_rate", *rate) for rate in draw.sample(book.rate_list(), len(book.rate_list()))]
    money += [("put_sold" if kind == "sold" else "put_back", *row) for kind, *row in book.money_list()]
    while free or money:
        name, *told = draw.choice([deeds for deeds in (free, money) if deeds]).pop(0)
        getattr(other, name)(*told)
    return other


def all_answers(book):
    """What each ask that goes through the days tells of a book."""
    halves = range(45 // book.half_days() + 2)
    answers = {"ledgers": [told_by(Ledger(book, day), PEOPLE, WORKS) for day in (0, 7, 20, 41, 60)],
               "statements": [statement_list(book, half) for half in halves],
               "shares": [share_list(book, name, day, {}) for name in PEOPLE for day in (0, 20, 60)],
               "text": book_text(book)}
    for work in WORKS:
        try:
            answers["strike", work] = strike_list(book, work, 30)
        except Endless as refusal:
            answers["strike", work] = refusal.names
    return answers


def drawn_calm_book(draw):
    """A drawn book of which no person's hands go round for ever either."""
    while True:
        book = drawn_ending_book(draw)
        try:
            all_answers(book)
        except Endless:
            continue
        return book


class TestInterface(unittest.TestCase):
    def test_functions_and_methods(self):
        for file, functions in FUNCTIONS.items():
            module = importlib.import_module("royaltree." + file)
            for name, many in functions.items():
                self.takes(getattr(module, name), many)
        for (file, name), methods in METHODS.items():
            made = getattr(importlib.import_module("royaltree." + file), name)
            for method, many in methods.items():
                self.takes(getattr(made, method), many + 1)

    def takes(self, function, many):
        parameters = inspect.signature(function).parameters.values()
        self.assertEqual(len(parameters), many, function)
        for parameter in parameters:
            self.assertIs(parameter.kind, parameter.POSITIONAL_OR_KEYWORD)
            self.assertIs(parameter.default, parameter.empty)

    def test_refusals(self):
        self.assertEqual(RoyalError.__bases__, (ValueError,))
        for name in REFUSALS:
            self.assertEqual(getattr(errors, name).__bases__, (RoyalError,))
        self.assertEqual(Endless(("ada", "bob")).names, ("ada", "bob"))
        self.assertEqual(BadRow(7).row, 7)


class TestOrderOfTelling(unittest.TestCase):
    def test_books_told_in_different_orders_and_by_texts_answer_alike(self):
        draw = random.Random(131)
        for turn in range(12):
            book = drawn_calm_book(draw)
            wanted = all_answers(book)
            others = [told_anew(draw, book), told_anew(draw, book), book.twin_book(), book_of(book_text(book))]
            for other in others:
                self.assertEqual(told_of(other), told_of(book))
                self.assertEqual(all_answers(other), wanted)

    def test_texts_in_different_orders_answer_alike(self):
        draw = random.Random(132)
        asks = ["came 30", "statement 1"]
        asks += [f"due {name} 30" for name in PEOPLE] + [f"waits {name} 30" for name in WORKS]
        for turn in range(12):
            rows = book_text(drawn_calm_book(draw)).split("\n")
            ordered = [row for row in rows if row.split(" ")[0] in ("sold", "back", "advance", "wrong")]
            free = [row for row in rows if row not in ordered]
            wanted = run("\n".join(rows + asks))
            for again in range(3):
                self.assertEqual(run("\n".join(drawn_order(draw, free) + ordered + asks)), wanted)

    def test_a_share_handed_on_counts_from_its_day(self):
        deeds = [
            lambda book: book.hand_on("ada", 5, "bob", (1, 2)),
            lambda book: book.hand_on("ada", 3, "cy", (1, 3)),
            lambda book: book.put_sold(2, "ode", 1, 12, "coin"),
            lambda book: book.put_sold(4, "ode", 1, 12, "coin"),
            lambda book: book.put_sold(5, "ode", 1, 12, "coin"),
        ]
        draw = random.Random(133)
        for turn in range(40):
            book = book_with("ada bob cy", "ode")
            book.put_rows("ode", (("of", "ada", (1, 1)),))
            draw.shuffle(deeds)
            for deed in deeds:
                deed(book)
            ledger = Ledger(book, 9)
            self.assertEqual([ledger.due_of(name) for name in ("ada", "bob", "cy")], [(24, 1), (4, 1), (8, 1)])


class TestFit(unittest.TestCase):
    def test_each_coin_is_somewhere_once(self):
        draw = random.Random(134)
        for turn in range(20):
            book = drawn_calm_book(draw)
            for day in (5, 17, 40, 80):
                ledger = Ledger(book, day)
                coins = Fraction(0)
                for person in book.person_names():
                    coins += Fraction(*ledger.open_of(person)) + Fraction(*ledger.kept_of(person))
                    coins += ledger.worked_of(person) + ledger.paid_of(person)
                for work in book.work_names():
                    coins += Fraction(*ledger.waits_of(work))
                self.assertEqual(pair(coins), ledger.came_in())

    def test_statements_together_are_a_ledger(self):
        draw = random.Random(135)
        for turn in range(15):
            book = drawn_calm_book(draw)
            halves = 45 // book.half_days() + 2
            lists = [statement_list(book, half) for half in range(halves)]
            ledger = Ledger(book, halves * book.half_days() - 1)
            for at, person in enumerate(book.person_names()):
                rows = [told[at] for told in lists]
                self.assertEqual(pair(sum(Fraction(*row[1]) for row in rows)), ledger.due_of(person))
                self.assertEqual(sum(row[3] for row in rows), ledger.worked_of(person))
                self.assertEqual(sum(row[4] for row in rows), ledger.paid_of(person))
                # What was told as a debt is worked off or stands.
                owed = sum(coins for kind, day, name, coins in book.debt_list() if name == person)
                self.assertEqual(sum(row[3] for row in rows) + sum(rows[-1][7:]), owed)
            for one, other in zip(lists, lists[1:]):
                self.assertIs(shows_statements(one, other), True)

    def test_strikes_are_differences_of_ledgers(self):
        draw = random.Random(136)
        for turn in range(15):
            book = drawn_calm_book(draw)
            for work in WORKS:
                try:
                    told = {name: (given, without) for name, given, without in strike_list(book, work, 45)}
                except Endless:
                    continue
                ledger, without = Ledger(book, 45), Ledger(struck_book(book, work), 45)
                for name in book.person_names() + [other for other in book.work_names() if other != work]:
                    ask = "due_of" if name in PEOPLE else "waits_of"
                    both = getattr(ledger, ask)(name), getattr(without, ask)(name)
                    self.assertEqual(told.pop(name, None), both if both[0] != both[1] else None)
                self.assertEqual(told, {})

    def test_a_desk_tells_what_the_parts_tell(self):
        draw = random.Random(137)
        for turn in range(10):
            book = drawn_calm_book(draw)
            rows = book_text(book)
            ledger = Ledger(book, 33)
            for person in PEOPLE:
                told = run(f"{rows}\ndue {person} 33")[0].split(" ")
                top, below = ledger.open_of(person)
                self.assertEqual(int(told[0]), top // below)
                self.assertEqual([int(word) for word in told[2:]],
                                 [ledger.worked_of(person), ledger.paid_of(person), *ledger.debt_of(person)])
            told = run(f"{rows}\nstatement 2")[0].split(" ; ")
            self.assertEqual(told, [f"{row[0]} {row[3]} {row[4]}" for row in statement_list(book, 2)])


class TestSizes(unittest.TestCase):
    def test_what_was_told_is_handed_in_again_whatever_its_size(self):
        draw = random.Random(138)
        people, works = [f"p{sign}" for sign in "abcdef"], [f"w{sign}" for sign in "abcdef"]
        book = book_with(" ".join(people), " ".join(works))
        for at, work in enumerate(works):
            book.put_rows(work, tuple(("of", draw.choice(people + works), (1, 9 + draw.randint(0, 51)))
                                      for row in range(7)) + (("left", works[at - 1], (1, 60 - at)),))
        for at, person in enumerate(people):
            book.put_keep(person, (1, 59 - at))
        for at in range(20):
            book.hand_on(people[at % 6], at * 20, people[at % 6 - 1], (1, 59 - at))
            book.put_rate("eur", at * 20, pair(Fraction(997 - at, 1000 - at * 7)))
            book.put_sold(at * 20, works[at % 6], 10 ** 6, 10 ** 9, "eur")
        lists = [statement_list(book, half) for half in range(4)]
        self.assertGreater(max(max(row[1]) for row in lists[1]), 10 ** 200)
        for one, other in zip(lists, lists[1:]):
            self.assertIs(shows_statements(one, other), True)
            row = other[2]
            changed = row[:1] + (pair(Fraction(*row[1]) + Fraction(1, 10 ** 900)),) + row[2:]
            self.assertIs(shows_statements(one, other[:2] + [changed] + other[3:]), False)

    def test_texts_that_are_told_are_read_again(self):
        draw = random.Random(139)
        for turn in range(20):
            text = book_text(drawn_ending_book(draw))
            for again in range(3):
                self.assertEqual(book_text(book_of(text)), text)

    def test_a_book_without_anything(self):
        book = Book()
        self.assertEqual(book_text(book), "half 182")
        self.assertEqual(statement_list(book, 0), [])
        self.assertIs(shows_statements(statement_list(book, 0), statement_list(book, 1)), True)
        self.assertEqual(run(book_text(book) + "\ncame 0\nstatement 9999"), ["0", "-"])


if __name__ == "__main__":
    unittest.main()
