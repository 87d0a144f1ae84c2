"""Promise 10: flows of a coin, round rings too, where it stays, and what goes round for ever."""

import random
import unittest
from fractions import Fraction

from reckoning import PEOPLE, WORKS, BookCase, book_with, drawn_book, pair, wanted_flows
from royaltree.errors import Endless, NoName, RoyalError
from royaltree.flows import flow_list, leads_from, share_list, stays_at


class FlowCase(BookCase):
    def told(self, book, name, flows, shares, day=0, counts=None):
        with self.subTest(name=name, day=day, counts=counts):
            handed = dict(counts or {})
            told_flows, told_shares = flow_list(book, name, day, handed), share_list(book, name, day, handed)
            for told in (told_flows, told_shares):
                self.assertIs(type(told), list)
                self.assertEqual({type(one) for one in told}, {tuple})
            self.assertEqual(told_flows, flows)
            self.assertEqual(told_shares, shares)
            self.assertEqual(handed, counts or {})
            self.assertEqual(sum(Fraction(*share) for other, share in told_shares), 1)

    def endless(self, book, name, names, day=0, counts=None):
        for ask in (flow_list, share_list):
            with self.subTest(ask=ask, name=name, day=day, counts=counts):
                handed = dict(counts or {})
                with self.assertRaises(RoyalError) as caught:
                    ask(book, name, day, handed)
                self.assertIs(type(caught.exception), Endless)
                self.assertEqual(caught.exception.names, names)
                self.assertIs(type(caught.exception.names), tuple)
                self.assertEqual(handed, counts or {})


class TestTrees(FlowCase):
    def test_a_person_or_work_alone(self):
        book = book_with("ada", "ode")
        for name in ("ada", "ode"):
            self.told(book, name, [(name, (1, 1))], [(name, (1, 1))])

    def test_a_tree(self):
        book = book_with("ada bob cy", "ode song")
        book.put_rows("ode", (("of", "song", (1, 4)), ("of", "ada", (1, 2))))
        book.put_rows("song", (("of", "bob", (1, 3)),))
        self.told(book, "ode", [("ada", (1, 2)), ("bob", (1, 12)), ("ode", (1, 1)), ("song", (1, 4))],
                  [("ada", (1, 2)), ("bob", (1, 12)), ("ode", (1, 4)), ("song", (1, 6))])
        self.told(book, "song", [("bob", (1, 3)), ("song", (1, 1))], [("bob", (1, 3)), ("song", (2, 3))])
        self.told(book, "bob", [("bob", (1, 1))], [("bob", (1, 1))])

    def test_a_name_come_to_by_several_ways(self):
        book = book_with("ada", "ode song tune")
        book.put_rows("ode", (("of", "song", (1, 2)), ("of", "tune", (1, 3)), ("of", "ada", (1, 6))))
        book.put_rows("song", (("of", "ada", (1, 2)), ("of", "tune", (1, 2))))
        book.put_rows("tune", (("of", "ada", (3, 7)),))
        self.told(book, "ode", [("ada", (2, 3)), ("ode", (1, 1)), ("song", (1, 2)), ("tune", (7, 12))],
                  [("ada", (2, 3)), ("tune", (1, 3))])

    def test_a_name_at_which_nothing_stays_is_in_the_flows_alone(self):
        book = book_with("ada", "ode")
        book.put_rows("ode", (("of", "ada", (1, 1)),))
        self.told(book, "ode", [("ada", (1, 1)), ("ode", (1, 1))], [("ada", (1, 1))])

    def test_a_name_to_which_nothing_leads_is_not_there(self):
        book = book_with("ada bob", "ode song")
        book.put_rows("ode", (("of", "ada", (1, 1)), ("left", "bob", (1, 2)), ("length", "song", 3)))
        self.told(book, "ode", [("ada", (1, 1)), ("ode", (1, 1))], [("ada", (1, 1))])

    def test_by_days_and_counts(self):
        book = book_with("ada bob", "ode song")
        book.put_rows("ode", (("steps", "ada", ((5, (1, 2)), (None, (1, 4)))), ("left", "song", (1, 1))))
        book.put_rows("song", (("steps", "ada", ((8, (1, 2)), (None, (1, 4)))),))
        book.hand_on("ada", 3, "bob", (1, 1))
        book.make_known("song", 4, "bob")
        self.told(book, "ode", [("ada", (3, 4)), ("ode", (1, 1)), ("song", (1, 2))],
                  [("ada", (3, 4)), ("song", (1, 4))], 2, {"ode": 4, "song": 7})
        self.told(book, "ode", [("ada", (7, 16)), ("ode", (1, 1)), ("song", (3, 4))],
                  [("ada", (7, 16)), ("song", (9, 16))], 2, {"ode": 5, "song": 8})
        self.told(book, "ode", [("ada", (3, 4)), ("bob", (3, 4)), ("ode", (1, 1)), ("song", (1, 2))],
                  [("bob", (3, 4)), ("song", (1, 4))], 3, {"song": 0})
        self.told(book, "ode", [("ada", (3, 4)), ("bob", (1, 1)), ("ode", (1, 1)), ("song", (1, 2))],
                  [("bob", (1, 1))], 4, {})


class TestRings(FlowCase):
    def test_of_works(self):
        book = book_with("", "ode song")
        book.put_rows("ode", (("of", "song", (1, 2)),))
        book.put_rows("song", (("of", "ode", (1, 3)),))
        self.told(book, "ode", [("ode", (6, 5)), ("song", (3, 5))], [("ode", (3, 5)), ("song", (2, 5))])
        self.told(book, "song", [("ode", (2, 5)), ("song", (6, 5))], [("ode", (1, 5)), ("song", (4, 5))])

    def test_of_people(self):
        book = book_with("ada bob cy")
        book.hand_on("ada", 0, "bob", (1, 2))
        book.hand_on("bob", 1, "cy", (1, 2))
        book.hand_on("cy", 2, "ada", (1, 2))
        self.told(book, "ada", [("ada", (1, 1)), ("bob", (1, 2)), ("cy", (1, 4))],
                  [("ada", (1, 2)), ("bob", (1, 4)), ("cy", (1, 4))], 1)
        self.told(book, "ada", [("ada", (8, 7)), ("bob", (4, 7)), ("cy", (2, 7))],
                  [("ada", (4, 7)), ("bob", (2, 7)), ("cy", (1, 7))], 2)

    def test_of_works_that_lead_into_one_of_people(self):
        book = book_with("ada bob", "ode song")
        book.put_rows("ode", (("length", "song", 1), ("length", "ada", 1)))
        book.put_rows("song", (("length", "ode", 1), ("length", "ada", 1)))
        book.hand_on("ada", 0, "bob", (1, 1))
        book.hand_on("bob", 0, "ada", (1, 2))
        self.told(book, "ode", [("ada", (2, 1)), ("bob", (2, 1)), ("ode", (4, 3)), ("song", (2, 3))],
                  [("bob", (1, 1))])

    def test_a_work_that_leads_to_itself(self):
        book = book_with("ada", "ode")
        book.put_rows("ode", (("of", "ode", (59, 60)),))
        self.told(book, "ode", [("ode", (60, 1))], [("ode", (1, 1))])
        book.put_rows("ode", (("of", "ode", (1, 2)), ("of", "ode", (1, 4)), ("length", "ada", 9)))
        self.told(book, "ode", [("ada", (1, 1)), ("ode", (4, 1))], [("ada", (1, 1))])

    def test_rings_within_rings(self):
        book = book_with("ada", "ode song tune")
        book.put_rows("ode", (("of", "ode", (1, 2)), ("of", "song", (1, 2))))
        book.put_rows("song", (("of", "tune", (1, 2)), ("of", "ode", (1, 2))))
        book.put_rows("tune", (("of", "song", (1, 3)), ("of", "ode", (1, 3)), ("of", "ada", (1, 3))))
        # ode = 1 + ode/2 + song/2 + tune/3, song = ode/2 + tune/3, tune = song/2, ada = tune/3.
        self.told(book, "ode", [("ada", (1, 1)), ("ode", (10, 1)), ("song", (6, 1)), ("tune", (3, 1))],
                  [("ada", (1, 1))])

    def test_two_rings_with_a_name_in_common(self):
        book = book_with("", "ode song tune")
        book.put_rows("ode", (("of", "song", (1, 2)), ("of", "tune", (1, 4))))
        book.put_rows("song", (("of", "ode", (1, 1)),))
        book.put_rows("tune", (("of", "ode", (1, 2)),))
        self.told(book, "ode", [("ode", (8, 3)), ("song", (4, 3)), ("tune", (2, 3))],
                  [("ode", (2, 3)), ("tune", (1, 3))])

    def test_the_same_name_last_and_first(self):
        for ring in ("a b c d", "d c b a", "b d a c"):
            book, names = book_with("", ring), ring.split()
            for name, other in zip(names, names[1:] + names[:1]):
                book.put_rows(name, (("of", other, (1, 2)),))
            flows = {name: (2 ** (4 - at), 15) for at, name in enumerate(names)}
            self.told(book, names[0], [(name, pair(Fraction(*flows[name]))) for name in sorted(names)],
                      [(name, pair(Fraction(flows[name][0], 30))) for name in sorted(names)])

    def test_a_ring_of_all_twelve_works_and_one_of_all_twelve_people(self):
        people, works = [f"p{sign}" for sign in "abcdefghijkl"], [f"w{sign}" for sign in "abcdefghijkl"]
        book = book_with(" ".join(people), " ".join(works))
        for at in range(12):
            book.put_rows(works[at], (("of", works[(at + 1) % 12], (58, 59)), ("left", people[at], (1, 1))))
            book.hand_on(people[at], at, people[(at + 5) % 12], (57, 58))
        flows, shares, endless = wanted_flows(book, "wa", 11, {})
        self.told(book, "wa", [(name, pair(flows[name])) for name in sorted(people + works)],
                  [(name, pair(shares[name])) for name in people], 11)


class TestEndless(FlowCase):
    def test_a_work_that_leads_to_itself_alone(self):
        book = book_with("ada", "ode song tune")
        book.put_rows("ode", (("of", "ode", (1, 1)),))
        book.put_rows("song", (("of", "ode", (1, 2)),))
        book.put_rows("tune", (("of", "ode", (1, 1)),))
        self.endless(book, "ode", ("ode",))
        self.endless(book, "song", ("ode",))
        self.endless(book, "tune", ("ode", "tune"))
        self.told(book, "ada", [("ada", (1, 1))], [("ada", (1, 1))])

    def test_a_ring_of_people(self):
        book = book_with("ada bob cy", "ode")
        book.hand_on("cy", 1, "bob", (1, 1))
        book.hand_on("bob", 2, "cy", (1, 1))
        book.put_rows("ode", (("of", "bob", (1, 60)), ("of", "ada", (1, 60))))
        self.told(book, "bob", [("bob", (1, 1))], [("bob", (1, 1))], 1)
        self.told(book, "cy", [("bob", (1, 1)), ("cy", (1, 1))], [("bob", (1, 1))], 1)
        for name in ("bob", "cy", "ode"):
            self.endless(book, name, ("bob", "cy"), 2)
        self.told(book, "ada", [("ada", (1, 1))], [("ada", (1, 1))], 2)

    def test_a_ring_of_both_and_names_that_lead_nowhere_else(self):
        book = book_with("ada bob", "ode song tune")
        book.put_rows("ode", (("length", "song", 1), ("length", "ada", 1)))
        book.put_rows("song", (("length", "ode", 1),))
        book.put_rows("tune", (("length", "song", 1),))
        book.hand_on("ada", 0, "bob", (1, 1))
        book.hand_on("bob", 0, "ada", (1, 1))
        self.endless(book, "tune", ("ada", "bob", "ode", "song", "tune"))
        self.endless(book, "song", ("ada", "bob", "ode", "song"))
        self.endless(book, "bob", ("ada", "bob"))

    def test_where_a_part_of_what_is_come_to_is_so(self):
        book = book_with("ada bob", "ode song tune")
        book.put_rows("ode", (("length", "song", 999), ("length", "ada", 1)))
        book.put_rows("song", (("of", "tune", (1, 1)),))
        book.put_rows("tune", (("of", "song", (1, 1)),))
        self.endless(book, "ode", ("song", "tune"))
        self.endless(book, "song", ("song", "tune"))
        self.told(book, "ada", [("ada", (1, 1))], [("ada", (1, 1))])

    def test_several_rings_are_told_together(self):
        book = book_with("", "d c b a e")
        for name, other in (("d", "b"), ("b", "d"), ("c", "c")):
            book.put_rows(name, (("of", other, (1, 1)),))
        book.put_rows("a", (("of", "d", (1, 2)), ("of", "e", (1, 2))))
        book.put_rows("e", (("of", "c", (1, 2)),))
        self.endless(book, "a", ("b", "c", "d"))
        self.endless(book, "e", ("c",))

    def test_a_ring_with_a_leak_is_none(self):
        book = book_with("ada", "ode song tune")
        book.put_rows("ode", (("of", "song", (1, 1)),))
        book.put_rows("song", (("of", "tune", (1, 1)),))
        book.put_rows("tune", (("of", "ode", (59, 60)), ("of", "ada", (1, 60))))
        self.told(book, "song", [("ada", (1, 1)), ("ode", (59, 1)), ("song", (60, 1)), ("tune", (60, 1))],
                  [("ada", (1, 1))])
        book.put_rows("tune", (("of", "ode", (59, 60)),))
        self.told(book, "song", [("ode", (59, 1)), ("song", (60, 1)), ("tune", (60, 1))], [("tune", (1, 1))])

    def test_by_counts(self):
        book = book_with("ada", "ode song")
        book.put_rows("ode", (("steps", "ode", ((10, (1, 2)), (20, (1, 1)), (None, (1, 4)))), ("left", "ada", (1, 2))))
        book.put_rows("song", (("of", "ode", (1, 2)),))
        self.told(book, "ode", [("ada", (1, 2)), ("ode", (2, 1))], [("ada", (1, 2)), ("ode", (1, 2))], 0, {"ode": 9})
        self.endless(book, "ode", ("ode",), 0, {"ode": 10})
        self.endless(book, "song", ("ode",), 0, {"ode": 19})
        self.told(book, "ode", [("ada", (1, 2)), ("ode", (4, 3))], [("ada", (1, 2)), ("ode", (1, 2))], 0, {"ode": 20})

    def test_two_refusals_keep_their_own_names(self):
        book = book_with("", "ode song")
        book.put_rows("ode", (("of", "ode", (1, 1)),))
        book.put_rows("song", (("of", "song", (1, 1)),))
        self.endless(book, "ode", ("ode",))
        self.endless(book, "song", ("song",))


class TestAsks(FlowCase):
    def test_no_name(self):
        book = book_with("ada", "ode")
        for ask in (flow_list, share_list):
            for name in ("eve", "", "Ada", "a b", "odes", "coin"):
                with self.assertRaises(RoyalError) as caught:
                    ask(book, name, 0, {})
                self.assertIs(type(caught.exception), NoName)

    def test_against_another_reckoning(self):
        draw, rings, ends = random.Random(43), 0, 0
        for turn in range(80):
            book = drawn_book(draw, whole_parts=0.2)
            for name in PEOPLE + WORKS:
                day = draw.randint(0, 45)
                counts = {work: draw.randint(0, 45) for work in WORKS if draw.random() < 0.7}
                flows, shares, endless = wanted_flows(book, name, day, counts)
                if endless:
                    ends += 1
                    self.endless(book, name, endless, day, counts)
                else:
                    rings += flows[name] > 1
                    self.told(book, name, [(one, pair(flows[one])) for one in sorted(flows)],
                              [(one, pair(shares[one])) for one in sorted(shares)], day, counts)
        self.assertGreater(rings, 50)
        self.assertGreater(ends, 20)

    def test_the_plain_equations_hold(self):
        draw = random.Random(47)
        for turn in range(40):
            book = drawn_book(draw, whole_parts=0)
            counts = {"ode": turn, "tune": 3}
            flows = dict(flow_list(book, "song", turn, counts))
            comes = {name: Fraction(name == "song") for name in flows}
            for name in flows:
                for other, part in leads_from(book, name, turn, counts):
                    comes[other] += Fraction(*flows[name]) * Fraction(*part)
            self.assertEqual({name: pair(flow) for name, flow in comes.items()}, flows)
            stays = {name: Fraction(*flows[name]) * Fraction(*stays_at(book, name, turn, counts)) for name in flows}
            self.assertEqual(share_list(book, "song", turn, counts),
                             [(name, pair(stays[name])) for name in sorted(stays) if stays[name]])


if __name__ == "__main__":
    unittest.main()
