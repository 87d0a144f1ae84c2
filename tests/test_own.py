"""Promise 2, over the whole program: what is told is the asker's own, and what is handed in is left alone."""

import copy
import random
import unittest

from reckoning import PEOPLE, WORKS, book_with, drawn_book, told_by, told_of
from royaltree.books import Book
from royaltree.flowcheck import shows_flow
from royaltree.flows import flow_list, leads_from, share_list, stays_at
from royaltree.ledger import Ledger, credit_list
from royaltree.statements import shows_statements, statement_list
from royaltree.strikes import strike_list, struck_book
from royaltree.texts import book_of, book_text

COUNTS = {"ode": 7, "song": 0}


def told_book():
    book = book_with("ada bob cy", "ode song tune")
    book.put_rows("ode", (("of", "ada", (1, 3)), ("steps", "song", ((5, (1, 4)), (None, (1, 5))))))
    book.put_rows("song", (("of", "ode", (1, 2)), ("left", "bob", (1, 3))))
    book.hand_on("ada", 4, "bob", (1, 2))
    book.hand_on("ada", 2, "cy", (1, 2))
    book.hand_on("bob", 2, "ada", (1, 2))
    book.make_known("song", 3, "cy")
    book.put_rate("eur", 3, (2, 3))
    book.put_rate("eur", 1, (5, 3))
    book.put_keep("ada", (1, 3))
    book.put_half(5)
    book.put_sold(4, "ode", 9, 100, "eur")
    book.put_sold(2, "song", 9, 100, "coin")
    book.put_back(6, "ode", 6, 30, "coin")
    book.put_debt("wrong", 4, "ada", 5)
    book.put_debt("advance", 3, "bob", 5)
    return book


# Every ask of which a list is told.
ASKS = {
    "person_names": lambda book: book.person_names(),
    "work_names": lambda book: book.work_names(),
    "hands_of": lambda book: book.hands_of("ada"),
    "hands_of none": lambda book: book.hands_of("cy"),
    "rate_list": lambda book: book.rate_list(),
    "money_list": lambda book: book.money_list(),
    "debt_list": lambda book: book.debt_list(),
    "leads_from person": lambda book: leads_from(book, "ada", 9, COUNTS),
    "leads_from work": lambda book: leads_from(book, "ode", 9, COUNTS),
    "leads_from none": lambda book: leads_from(book, "tune", 9, COUNTS),
    "flow_list": lambda book: flow_list(book, "ode", 9, COUNTS),
    "flow_list alone": lambda book: flow_list(book, "cy", 9, COUNTS),
    "share_list": lambda book: share_list(book, "ode", 9, COUNTS),
    "share_list alone": lambda book: share_list(book, "tune", 9, COUNTS),
    "credit_list": lambda book: credit_list(book, 1),
    "credit_list back": lambda book: credit_list(book, 2),
    "statement_list": lambda book: statement_list(book, 1),
    "statement_list nothing": lambda book: statement_list(book, 9999),
    "strike_list": lambda book: strike_list(book, "ode", 9),
    "strike_list none": lambda book: strike_list(book, "tune", 9),
    "struck_book money": lambda book: struck_book(book, "song").money_list(),
    "book_of people": lambda book: book_of(book_text(book)).person_names(),
    "book_of money": lambda book: book_of(book_text(book)).money_list(),
}


def more_deeds(book):
    book.add_person("aa")
    book.add_work("ab")
    book.put_rows("ode", (("of", "ab", (1, 7)), ("left", "aa", (1, 3))))
    book.put_rows("tune", (("of", "aa", (1, 7)),))
    book.hand_on("ada", 1, "aa", (1, 7))
    book.hand_on("cy", 1, "aa", (1, 7))
    book.make_known("ode", 0, "aa")
    book.put_rate("eur", 4, (7, 1))
    book.put_keep("ada", (1, 7))
    book.put_half(7)
    book.put_sold(0, "ode", 7, 7, "coin")
    book.put_sold(0, "tune", 7, 7, "coin")
    book.put_back(1, "ode", 1, 1, "coin")
    book.put_debt("wrong", 0, "ada", 7)


class TestOwn(unittest.TestCase):
    def test_the_same_question_is_told_the_same_in_a_list_of_its_own(self):
        book = told_book()
        for name, ask in ASKS.items():
            with self.subTest(ask=name):
                first, second = ask(book), ask(book)
                self.assertEqual(first, second)
                self.assertIsNot(first, second)
                self.assertIs(type(first), list)

    def test_changing_what_is_told_changes_nothing_else(self):
        book = told_book()
        wanted, ledger = told_of(book), told_by(Ledger(book, 9), PEOPLE[:3], WORKS)
        for name, ask in ASKS.items():
            for change in (lambda told: told.clear(), lambda told: told.append(("zed", (1, 2))),
                           lambda told: told.reverse(), lambda told: told.insert(0, told[-1] if told else None)):
                with self.subTest(ask=name):
                    told = ask(book)
                    kept = copy.deepcopy(told)
                    change(told)
                    self.assertEqual(ask(book), kept)
        self.assertEqual(told_of(book), wanted)
        self.assertEqual(told_by(Ledger(book, 9), PEOPLE[:3], WORKS), ledger)

    def test_nothing_done_later_changes_what_was_told(self):
        book = told_book()
        told = {name: ask(book) for name, ask in ASKS.items()}
        kept = copy.deepcopy(told)
        rows, known = book.rows_of("ode"), book.known_of("song")
        more_deeds(book)
        self.assertEqual(told, kept)
        self.assertEqual((rows, known), (told_book().rows_of("ode"), told_book().known_of("song")))
        for name, ask in ASKS.items():
            self.assertNotEqual(ask(book), kept[name], name)

    def test_no_two_lists_that_are_told_are_one_and_the_same(self):
        book = told_book()
        told = [ask(one) for ask in ASKS.values() for one in (book, book, book.twin_book())]
        self.assertEqual(len({id(one) for one in told}), len(told))

    def test_of_an_empty_book(self):
        book = Book()
        for name in ("person_names", "work_names", "rate_list", "money_list", "debt_list"):
            getattr(book, name)().append("zed")
            self.assertEqual(getattr(book, name)(), [])

    def test_a_twins_lists_are_its_own(self):
        book = told_book()
        twin = book.twin_book()
        for name, ask in ASKS.items():
            ask(twin).clear()
            ask(book).append(None)
        self.assertEqual(told_of(book), told_of(told_book()))
        self.assertEqual(told_of(twin), told_of(told_book()))

    def test_a_ledger_tells_the_same_again(self):
        ledger = Ledger(told_book(), 8)
        self.assertEqual(told_by(ledger, PEOPLE[:3], WORKS), told_by(ledger, PEOPLE[:3], WORKS))


class TestHandedIn(unittest.TestCase):
    def test_counts_stay_as_they_were_and_are_not_kept(self):
        book = told_book()
        for ask in (leads_from, stays_at, flow_list, share_list):
            for name in ("ode", "song", "tune", "ada"):
                counts = dict(COUNTS)
                first = ask(book, name, 9, counts)
                self.assertEqual((counts, list(counts)), (COUNTS, list(COUNTS)))
                counts["ode"] = 0
                ask(book, name, 9, counts)
                self.assertEqual(counts, {"ode": 0, "song": 0})
                self.assertEqual(ask(book, name, 9, dict(COUNTS)), first)

    def test_a_checked_thing_stays_as_it_was(self):
        book = told_book()
        flows = flow_list(book, "ode", 9, COUNTS)[::-1]
        kept = list(flows)
        self.assertIs(shows_flow(book, "ode", 9, COUNTS, flows), True)
        self.assertEqual(flows, kept)
        flows.pop()
        self.assertIs(shows_flow(book, "ode", 9, COUNTS, flows), False)

    def test_checked_statements_stay_as_they_were(self):
        book = told_book()
        one, other = statement_list(book, 0), statement_list(book, 1)
        kept = copy.deepcopy((one, other))
        self.assertIs(shows_statements(one, other), True)
        self.assertEqual((one, other), kept)
        other.reverse()
        self.assertIs(shows_statements(one, other), False)
        self.assertEqual(other, kept[1][::-1])

    def test_asks_leave_the_book_as_it_was(self):
        draw = random.Random(71)
        for turn in range(20):
            book = drawn_book(draw, whole_parts=0)
            wanted = told_of(book)
            Ledger(book, 50)
            for number in range(len(book.money_list())):
                credit_list(book, number)
            for name in PEOPLE + WORKS:
                shows_flow(book, name, 9, COUNTS, flow_list(book, name, 9, COUNTS))
                share_list(book, name, 9, COUNTS)
            for half in (0, 3, 9999):
                statement_list(book, half)
            for work in WORKS:
                struck_book(book, work)
                strike_list(book, work, 0)
            book_text(book)
            self.assertEqual(told_of(book), wanted)

    def test_what_was_told_may_be_handed_in_again(self):
        book = told_book()
        other = Book()
        for name in book.person_names():
            other.add_person(name)
        for name in book.work_names():
            other.add_work(name)
        for work in book.work_names():
            other.put_rows(work, book.rows_of(work))
            if book.known_of(work) is not None:
                other.make_known(work, *book.known_of(work))
        for person in book.person_names():
            other.put_keep(person, book.keep_of(person))
            for hand in book.hands_of(person):
                other.hand_on(person, *hand)
        for rate in book.rate_list():
            other.put_rate(*rate)
        for kind, *told in book.money_list():
            (other.put_sold if kind == "sold" else other.put_back)(*told)
        for debt in book.debt_list():
            other.put_debt(*debt)
        other.put_half(book.half_days())
        self.assertEqual(told_of(other), told_of(book))


if __name__ == "__main__":
    unittest.main()
