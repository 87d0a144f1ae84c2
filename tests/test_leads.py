"""Promise 9: where a coin that comes to a person or a work goes on to, and what stays."""

import random
import unittest
from fractions import Fraction

from reckoning import PEOPLE, WORKS, BookCase, book_with, drawn_book, pair, wanted_leads
from royaltree.errors import NoName, RoyalError
from royaltree.flows import leads_from, stays_at

STEPS = ("steps", "bob", ((10, (1, 10)), (20, (1, 5)), (None, (1, 20))))


class LeadsCase(BookCase):
    def told(self, book, name, day, counts, leads, stays):
        with self.subTest(name=name, day=day, counts=counts):
            handed = dict(counts)
            told = leads_from(book, name, day, handed)
            self.assertIs(type(told), list)
            self.assertEqual({type(one) for one in told}, {tuple} if told else set())
            self.assertEqual(told, leads)
            self.assertEqual(stays_at(book, name, day, handed), stays)
            self.assertIs(type(stays_at(book, name, day, handed)), tuple)
            self.assertEqual(handed, counts)


class TestPeople(LeadsCase):
    def test_without_hands_all_stays(self):
        self.told(book_with("ada"), "ada", 5, {}, [], (1, 1))

    def test_hands_up_to_on_and_behind_the_day(self):
        book = book_with("ada bob cy dan")
        book.hand_on("ada", 20, "cy", (1, 3))
        book.hand_on("ada", 10, "dan", (1, 2))
        book.hand_on("ada", 30, "bob", (1, 1))
        self.told(book, "ada", 0, {}, [], (1, 1))
        self.told(book, "ada", 9, {}, [], (1, 1))
        for day in (10, 11, 19):
            self.told(book, "ada", day, {}, [("dan", (1, 2))], (1, 2))
        for day in (20, 29):
            self.told(book, "ada", day, {}, [("cy", (1, 6)), ("dan", (1, 2))], (1, 3))
        for day in (30, 9999):
            self.told(book, "ada", day, {}, [("bob", (1, 3)), ("cy", (1, 6)), ("dan", (1, 2))], (0, 1))

    def test_each_hand_its_part_of_what_is_left_by_days_whatever_the_order_of_telling(self):
        for days in ((1, 2, 3), (2, 1, 3), (3, 2, 1), (3, 1, 2)):
            book = book_with("ada bob cy")
            for day in days:
                book.hand_on("ada", day, *{1: ("cy", (1, 2)), 2: ("bob", (1, 3)), 3: ("cy", (1, 4))}[day])
            self.told(book, "ada", 3, {}, [("bob", (1, 6)), ("cy", (7, 12))], (1, 4))

    def test_behind_a_hand_of_all_nothing_is_left(self):
        book = book_with("ada bob cy")
        book.hand_on("ada", 1, "cy", (1, 1))
        book.hand_on("ada", 2, "bob", (1, 2))
        self.told(book, "ada", 2, {}, [("cy", (1, 1))], (0, 1))

    def test_hands_of_others_are_no_matter(self):
        book = book_with("ada bob")
        book.hand_on("bob", 1, "ada", (1, 3))
        self.told(book, "ada", 2, {}, [], (1, 1))
        self.told(book, "bob", 2, {}, [("ada", (1, 3))], (2, 3))

    def test_counts_are_no_matter_to_a_person(self):
        book = book_with("ada bob", "ode")
        book.hand_on("ada", 1, "bob", (1, 3))
        self.told(book, "ada", 2, {"ode": 7}, [("bob", (1, 3))], (2, 3))


class TestWorks(LeadsCase):
    def test_without_rows_all_waits(self):
        self.told(book_with("", "ode"), "ode", 5, {}, [], (1, 1))

    def test_rows_of_each_kind(self):
        book = book_with("ada bob cy", "ode song")
        book.put_rows("ode", (("of", "song", (1, 4)), ("left", "ada", (1, 3)), STEPS, ("length", "cy", 2),
                              ("length", "ode", 1)))
        # Unit 0: 1/4 and 1/10 ahead, of 13/20 a third, and 13/30 by two and one.
        self.told(book, "ode", 5, {}, [("ada", (13, 60)), ("bob", (1, 10)), ("cy", (13, 45)), ("ode", (13, 90)),
                                       ("song", (1, 4))], (0, 1))

    def test_units_below_at_and_behind_an_upto(self):
        book = book_with("bob", "ode song")
        book.put_rows("ode", (STEPS,))
        for counts, part, stays in (({}, (1, 10), (9, 10)), ({"ode": 0}, (1, 10), (9, 10)),
                                    ({"song": 15}, (1, 10), (9, 10)), ({"ode": 9}, (1, 10), (9, 10)),
                                    ({"ode": 10}, (1, 5), (4, 5)), ({"ode": 11, "song": 0}, (1, 5), (4, 5)),
                                    ({"ode": 19}, (1, 5), (4, 5)), ({"ode": 20}, (1, 20), (19, 20)),
                                    ({"ode": 40 * 10 ** 6}, (1, 20), (19, 20))):
            self.told(book, "ode", 0, counts, [("bob", part)], stays)

    def test_a_maker_known_by_that_day_and_not_yet(self):
        book = book_with("ada bob", "ode")
        book.put_rows("ode", (STEPS,))
        book.make_known("ode", 5, "ada")
        for day in (0, 4):
            self.told(book, "ode", day, {}, [("bob", (1, 10))], (9, 10))
        for day in (5, 6, 9999):
            self.told(book, "ode", day, {}, [("ada", (9, 10)), ("bob", (1, 10))], (0, 1))
            self.told(book, "ode", day, {"ode": 10}, [("ada", (4, 5)), ("bob", (1, 5))], (0, 1))

    def test_a_maker_who_has_a_row_too(self):
        book = book_with("bob", "ode")
        book.put_rows("ode", (STEPS,))
        book.make_known("ode", 5, "bob")
        self.told(book, "ode", 5, {}, [("bob", (1, 1))], (0, 1))

    def test_a_maker_of_rows_that_leave_nothing(self):
        book = book_with("ada bob", "ode")
        book.put_rows("ode", (("length", "bob", 1),))
        book.make_known("ode", 5, "ada")
        self.told(book, "ode", 5, {}, [("bob", (1, 1))], (0, 1))

    def test_a_maker_of_a_work_without_rows(self):
        book = book_with("ada", "ode")
        book.make_known("ode", 0, "ada")
        self.told(book, "ode", 0, {}, [("ada", (1, 1))], (0, 1))

    def test_parts_that_lead_to_the_work_itself(self):
        book = book_with("", "ode")
        book.put_rows("ode", (("of", "ode", (1, 3)), ("left", "ode", (1, 2))))
        self.told(book, "ode", 0, {}, [("ode", (2, 3))], (1, 3))
        book.put_rows("ode", (("of", "ode", (1, 1)),))
        self.told(book, "ode", 0, {}, [("ode", (1, 1))], (0, 1))

    def test_rows_as_they_are_now(self):
        book = book_with("ada bob", "ode")
        book.put_rows("ode", (("of", "ada", (1, 3)),))
        book.put_rows("ode", (("of", "bob", (1, 4)),))
        self.told(book, "ode", 0, {}, [("bob", (1, 4))], (3, 4))


class TestBoth(LeadsCase):
    def test_no_name(self):
        book = book_with("ada", "ode")
        for ask in (leads_from, stays_at):
            for name in ("eve", "", "Ada", "a b", "odes", "coin"):
                with self.assertRaises(RoyalError) as caught:
                    ask(book, name, 0, {"eve": 3})
                self.assertIs(type(caught.exception), NoName)

    def test_against_another_reckoning(self):
        draw = random.Random(41)
        for turn in range(60):
            book = drawn_book(draw)
            for name in PEOPLE + WORKS:
                day = draw.randint(0, 45)
                counts = {work: draw.randint(0, 45) for work in WORKS if draw.random() < 0.7}
                wanted = wanted_leads(book, name, day, counts)
                self.told(book, name, day, counts, sorted((other, pair(part)) for other, part in wanted.items()),
                          pair(1 - sum(wanted.values(), Fraction(0))))


if __name__ == "__main__":
    unittest.main()
