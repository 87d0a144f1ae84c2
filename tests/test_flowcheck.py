"""Promise 10: what shows the flows of a coin, and what does not."""

import itertools
import random
import unittest
from fractions import Fraction

from reckoning import PEOPLE, WORKS, BookCase, book_with, drawn_book, pair
from royaltree.errors import Endless
from royaltree.flowcheck import shows_flow
from royaltree.flows import flow_list

# Things of any make that the document lets be asked of.
ANYTHING = (
    None, True, False, 0, 1, -1, 10 ** 40, "", "ode", "~ !", (), [], {}, {"ode": (1, 1)}, {1: 2}, ((),), [()], [[]],
    [None], [True], [1], ["ode"], ["od"], [("ode",)], [("ode", (1, 1), (1, 1))], [("ode", 1)], [("ode", "1")],
    [("ode", None)], [("ode", True)], [("ode", ())], [("ode", (1,))], [("ode", (1, 1, 1))], [("ode", {1: 1})],
    [("ode", ((1, 1), (1, 1)))], [(("ode",), (1, 1))], [(1, (1, 1))], [(None, (1, 1))], [([], (1, 1))],
    [({}, (1, 1))], [(True, (1, 1))], [{"ode": (1, 1)}], [((1, 1), "ode")], (("ode", ("1", "1")),),
    [("ode", (1, 0))], [("ode", (0, 0))], [("ode", (-1, -1))], [("ode", (1, None))], [("ode", (None, 1))],
    [[[[[[[[[[1]]]]]]]]]], ((((((((((None,),),),),),),),),),), {"a": {"b": {"c": [({},)]}}})


class ShowsCase(BookCase):
    def shows(self, wanted, book, name, thing, day=0, counts=None):
        with self.subTest(name=name, thing=thing, day=day, counts=counts):
            handed = dict(counts or {})
            kept = repr(thing)
            self.assertIs(shows_flow(book, name, day, handed, thing), wanted)
            self.assertEqual(handed, counts or {})
            self.assertEqual(repr(thing), kept)


class TestShown(ShowsCase):
    def ring(self):
        book = book_with("ada bob", "ode song")
        book.put_rows("ode", (("of", "song", (1, 2)), ("of", "ada", (1, 4))))
        book.put_rows("song", (("of", "ode", (1, 3)),))
        return book

    FLOWS = [("ada", (3, 10)), ("ode", (6, 5)), ("song", (3, 5))]

    def test_in_any_order_as_list_or_tuple(self):
        book = self.ring()
        self.assertEqual(flow_list(book, "ode", 0, {}), self.FLOWS)
        for told in itertools.permutations(self.FLOWS):
            self.shows(True, book, "ode", told)
            self.shows(True, book, "ode", list(told))
        self.shows(True, book, "bob", [("bob", (1, 1))])
        self.shows(True, book, "bob", (("bob", (1, 1)),))

    def test_one_name_less_more_or_twice(self):
        book = self.ring()
        for at in range(3):
            self.shows(False, book, "ode", self.FLOWS[:at] + self.FLOWS[at + 1:])
            self.shows(False, book, "ode", self.FLOWS + [self.FLOWS[at]])
            self.shows(False, book, "ode", self.FLOWS[:at] + [self.FLOWS[at]] + self.FLOWS[at:])
            other = self.FLOWS[at - 1]
            self.shows(False, book, "ode", self.FLOWS[:at] + [other] + self.FLOWS[at + 1:])
        for name in ("bob", "eve", "", "Ada", "zed"):
            for flow in ((0, 1), (1, 1), (3, 10)):
                self.shows(False, book, "ode", self.FLOWS + [(name, flow)])
                self.shows(False, book, "ode", [(name, flow)] + self.FLOWS[1:])
        self.shows(False, book, "bob", [])
        self.shows(False, book, "bob", ())

    def test_of_another_name(self):
        book = self.ring()
        for name in ("ada", "bob", "song"):
            self.shows(False, book, name, self.FLOWS)

    def test_one_fraction_a_little_otherwise(self):
        book = self.ring()
        for at, (name, (top, below)) in enumerate(self.FLOWS):
            for flow in ((top + 1, below), (top - 1, below), (-top, below), (0, 1), (1, 1), (below, top),
                         pair(Fraction(top, below) + Fraction(1, 10 ** 30)),
                         pair(Fraction(top, below) - Fraction(1, 10 ** 30))):
                self.shows(False, book, "ode", self.FLOWS[:at] + [(name, flow)] + self.FLOWS[at + 1:])

    def test_all_fractions_otherwise_alike(self):
        book = self.ring()
        for factor in (2, 3, -1, 0):
            self.shows(False, book, "ode", [(name, pair(Fraction(*flow) * factor)) for name, flow in self.FLOWS])

    def test_not_in_lowest_terms(self):
        book = self.ring()
        for at, (name, (top, below)) in enumerate(self.FLOWS):
            for flow in ((top * 2, below * 2), (-top, -below), (top * 7, below * 7), (top * 10 ** 9, below * 10 ** 9)):
                self.shows(False, book, "ode", self.FLOWS[:at] + [(name, flow)] + self.FLOWS[at + 1:])

    def test_nothing_stands_above_nought(self):
        # All names lead to one another, so a flow without end would meet the equations, if it were a fraction.
        book = book_with("", "ode song")
        book.put_rows("ode", (("of", "song", (1, 2)), ("of", "ode", (1, 4))))
        book.put_rows("song", (("of", "ode", (1, 3)),))
        for flow in ((1, 0), (-1, 0), (0, 0), (2, 0), (0, -1), (1, -1)):
            self.shows(False, book, "ode", [("ode", flow), ("song", flow)])

    def test_lists_for_pairs_or_fractions(self):
        book = self.ring()
        for at, (name, flow) in enumerate(self.FLOWS):
            for one in ([name, flow], (name, list(flow)), [name, list(flow)], {name: flow}, (name, flow, None),
                        (name,), (flow, name), (name, flow[0]), (name, {flow[0]: flow[1]})):
                self.shows(False, book, "ode", self.FLOWS[:at] + [one] + self.FLOWS[at + 1:])
        self.shows(False, book, "ode", dict(self.FLOWS))

    def test_true_and_false_for_numbers(self):
        book = book_with("ada", "ode")
        book.put_rows("ode", (("of", "ada", (1, 1)),))
        self.shows(True, book, "ode", [("ada", (1, 1)), ("ode", (1, 1))])
        for flow in ((True, 1), (1, True), (True, True), (1, False), (False, 1)):
            self.shows(False, book, "ode", [("ada", (1, 1)), ("ode", flow)])
            self.shows(False, book, "ode", [("ada", flow), ("ode", (1, 1))])
            self.shows(False, book, "ada", [("ada", flow)])

    def test_anything(self):
        book = self.ring()
        for thing in ANYTHING:
            self.shows(False, book, "ode", thing)
            self.shows(False, book, "bob", thing)
            self.shows(False, book, "ode", self.FLOWS + [thing])
            self.shows(False, book, "ode", [thing] + self.FLOWS)
            self.shows(False, book, "ode", (("ada", thing),) + tuple(self.FLOWS[1:]))
            self.shows(False, book, "ode", ((thing, (3, 10)),) + tuple(self.FLOWS[1:]))
            self.shows(False, book, "ode", (("ada", (3, thing)),) + tuple(self.FLOWS[1:]))
            self.shows(False, book, "ode", (("ada", (thing, 10)),) + tuple(self.FLOWS[1:]))

    def test_by_day_and_counts(self):
        book = book_with("ada bob", "ode")
        book.put_rows("ode", (("steps", "ada", ((5, (1, 2)), (None, (1, 4)))),))
        book.hand_on("ada", 7, "bob", (1, 2))
        early, late = [("ode", (1, 1)), ("ada", (1, 2))], [("ode", (1, 1)), ("ada", (1, 4))]
        self.shows(True, book, "ode", early, 6, {"ode": 4})
        self.shows(False, book, "ode", early, 7, {"ode": 4})
        self.shows(False, book, "ode", early, 6, {"ode": 5})
        self.shows(True, book, "ode", late, 6, {"ode": 5})
        self.shows(True, book, "ode", late + [("bob", (1, 8))], 7, {"ode": 5})

    def test_what_flow_list_tells_whatever_its_size(self):
        draw, shown = random.Random(53), 0
        for turn in range(60):
            book = drawn_book(draw)
            for name in PEOPLE + WORKS:
                try:
                    flows = flow_list(book, name, turn, {"song": turn})
                except Endless:
                    continue
                shown += 1
                self.shows(True, book, name, flows, turn, {"song": turn})
                draw.shuffle(flows)
                self.shows(True, book, name, tuple(flows), turn, {"song": turn})
                other, flow = flows.pop()
                self.shows(False, book, name, flows, turn, {"song": turn})
                flows.append((other, pair(Fraction(*flow) + Fraction(1, 61))))
                self.shows(False, book, name, flows, turn, {"song": turn})
        self.assertGreater(shown, 200)


class TestRefused(ShowsCase):
    def test_where_flow_list_is_refused_with_endless_nothing_shows(self):
        book = book_with("ada", "ode song")
        book.put_rows("ode", (("of", "ode", (1, 1)),))
        book.put_rows("song", (("of", "ode", (1, 2)), ("of", "ada", (1, 2))))
        for thing in ANYTHING + ([("ode", (1, 1))], [("ode", (0, 1))], [("ode", (2, 1))]):
            self.shows(False, book, "ode", thing)
        self.shows(False, book, "song", [("ada", (1, 2)), ("ode", (1, 2)), ("song", (1, 1))])

    def test_endless_where_the_equations_could_be_met(self):
        # Nothing comes to the ring, so any flow round it would hold; but no way leads there either.
        book = book_with("ada bob", "ode")
        book.hand_on("ada", 0, "bob", (1, 1))
        book.hand_on("bob", 0, "ada", (1, 1))
        self.shows(True, book, "ode", [("ode", (1, 1))])
        self.shows(False, book, "ode", [("ada", (1, 1)), ("bob", (1, 1)), ("ode", (1, 1))])
        self.shows(False, book, "ode", [("ada", (0, 1)), ("bob", (0, 1)), ("ode", (1, 1))])

    def test_where_there_is_no_such_name_nothing_shows(self):
        book = book_with("ada", "ode")
        for thing in ANYTHING + ([("eve", (1, 1))],):
            self.shows(False, book, "eve", thing)


if __name__ == "__main__":
    unittest.main()
