"""Promise 5: how rows part a coin, what waits, and where stretches of units are cut."""

import itertools
import random
import unittest
from fractions import Fraction

from reckoning import drawn_rows, wanted_parts
from royaltree.parting import is_rows, parts_at, too_much, unit_stretches, waits_at

STEPS = ("steps", "bob", ((10, (1, 10)), (20, (1, 5)), (30, (1, 4)), (None, (1, 20))))
MIXED = (
    ("length", "dan", 3),
    ("left", "cy", (1, 2)),
    ("of", "ada", (1, 5)),
    ("length", "ada", 5),
    STEPS,
    ("left", "bob", (1, 3)),
    ("of", "ada", (1, 10)),
)


class TestTooMuch(unittest.TestCase):
    def told(self, wanted, *rows):
        with self.subTest(rows=rows):
            self.assertIs(is_rows(rows), True)
            self.assertIs(too_much(rows), wanted)

    def test_of_rows(self):
        self.told(False)
        self.told(False, ("of", "ada", (1, 1)))
        self.told(False, ("of", "ada", (1, 2)), ("of", "bob", (1, 2)))
        self.told(False, ("of", "ada", (1, 2)), ("of", "bob", (29, 60)))
        self.told(True, ("of", "ada", (1, 2)), ("of", "bob", (31, 60)))
        self.told(True, ("of", "ada", (1, 1)), ("of", "ada", (1, 60)))
        self.told(False, ("of", "ada", (30, 59)), ("of", "bob", (29, 59)))
        self.told(True, ("of", "ada", (30, 59)), ("of", "bob", (1, 2)))
        self.told(False, ("of", "ada", (29, 59)), ("of", "bob", (1, 2)))
        self.told(False, *[("of", "ada", (1, 8))] * 8)
        self.told(True, *[("of", "ada", (1, 8))] * 7 + [("of", "ada", (1, 7))])
        self.told(False, *[("of", "ada", (1, 8))] * 7 + [("of", "ada", (1, 9))])

    def test_the_greatest_part_of_a_steps_row_at_each_place(self):
        for many in (2, 3, 4):
            uptos = [*range(1, many), None]
            for at in range(many):
                for part, wanted in (((1, 2), False), ((30, 59), True), ((29, 59), False), ((1, 1), True)):
                    parts = [(1, 60)] * many
                    parts[at] = part
                    self.told(wanted, ("of", "ada", (1, 2)), ("steps", "bob", tuple(zip(uptos, parts))))
                    self.told(wanted, ("steps", "bob", tuple(zip(uptos, parts))), ("of", "ada", (1, 2)))

    def test_several_steps_rows_are_taken_at_their_greatest_though_never_at_once(self):
        falling = ("steps", "ada", ((5, (1, 2)), (None, (1, 60))))
        rising = ("steps", "bob", ((5, (1, 60)), (None, (1, 2))))
        self.told(False, falling, rising)
        self.told(True, falling, rising, ("of", "cy", (1, 60)))
        self.told(True, falling, rising, falling)

    def test_greatest_by_worth_and_not_by_numbers(self):
        self.told(False, ("steps", "ada", ((5, (7, 60)), (None, (1, 2)))), ("of", "cy", (1, 2)))
        self.told(True, ("steps", "ada", ((5, (2, 3)), (None, (29, 60)))), ("of", "cy", (1, 2)))

    def test_left_rows_and_lengths_do_not_count(self):
        left, length = ("left", "cy", (1, 1)), ("length", "cy", 1000)
        self.told(False, left, left, left, length, length)
        self.told(False, ("of", "ada", (1, 1)), left, length)
        self.told(False, left, ("of", "ada", (1, 2)), length, ("of", "ada", (1, 2)), left)
        self.told(True, left, ("of", "ada", (1, 2)), length, ("of", "ada", (31, 60)), left)


class PartsCase(unittest.TestCase):
    def told(self, rows, unit, parts, waits):
        with self.subTest(rows=rows, unit=unit):
            told_parts, told_waits = parts_at(rows, unit), waits_at(rows, unit)
            self.assertIs(type(told_parts), list)
            self.assertEqual([type(told) for told in told_parts], [tuple] * len(told_parts))
            self.assertEqual(told_parts, parts)
            self.assertIs(type(told_waits), tuple)
            self.assertEqual(told_waits, waits)


class TestParts(PartsCase):
    def test_of_no_rows_all_waits(self):
        for unit in (0, 1, 10 ** 6, 10 ** 30):
            self.told((), unit, [], (1, 1))

    def test_of_rows(self):
        self.told((("of", "ada", (1, 3)),), 0, [("ada", (1, 3))], (2, 3))
        self.told((("of", "ada", (1, 1)),), 7, [("ada", (1, 1))], (0, 1))
        self.told((("of", "bob", (1, 2)), ("of", "ada", (1, 3))), 0, [("ada", (1, 3)), ("bob", (1, 2))], (1, 6))
        self.told((("of", "ada", (1, 4)), ("of", "bob", (1, 4)), ("of", "ada", (1, 4))), 0,
                  [("ada", (1, 2)), ("bob", (1, 4))], (1, 4))

    def test_steps_rows_at_each_upto(self):
        for unit, part, waits in ((0, (1, 10), (9, 10)), (9, (1, 10), (9, 10)), (10, (1, 5), (4, 5)),
                                  (11, (1, 5), (4, 5)), (19, (1, 5), (4, 5)), (20, (1, 4), (3, 4)),
                                  (29, (1, 4), (3, 4)), (30, (1, 20), (19, 20)), (31, (1, 20), (19, 20)),
                                  (10 ** 6, (1, 20), (19, 20)), (10 ** 40, (1, 20), (19, 20))):
            self.told((STEPS,), unit, [("bob", part)], waits)

    def test_steps_rows_at_the_least_and_greatest_uptos(self):
        rows = (("steps", "ada", ((1, (1, 2)), (10 ** 6, (1, 3)), (None, (1, 4)))),)
        self.told(rows, 0, [("ada", (1, 2))], (1, 2))
        self.told(rows, 1, [("ada", (1, 3))], (2, 3))
        self.told(rows, 10 ** 6 - 1, [("ada", (1, 3))], (2, 3))
        self.told(rows, 10 ** 6, [("ada", (1, 4))], (3, 4))

    def test_left_rows_in_their_order(self):
        self.told((("left", "ada", (1, 2)),), 0, [("ada", (1, 2))], (1, 2))
        self.told((("left", "ada", (1, 2)), ("left", "bob", (1, 3)), ("left", "cy", (3, 4))), 0,
                  [("ada", (1, 2)), ("bob", (1, 6)), ("cy", (1, 4))], (1, 12))
        self.told((("left", "bob", (1, 3)), ("left", "ada", (1, 2))), 0, [("ada", (1, 3)), ("bob", (1, 3))], (1, 3))

    def test_left_rows_are_of_what_of_and_steps_rows_leave_wherever_these_stand(self):
        left, of = ("left", "ada", (1, 2)), ("of", "bob", (1, 3))
        for rows in itertools.permutations((left, of)):
            self.told(rows, 0, [("ada", (1, 3)), ("bob", (1, 3))], (1, 3))
        for rows in itertools.permutations((left, of, ("steps", "cy", ((5, (1, 3)), (None, (1, 6)))))):
            self.told(rows, 4, [("ada", (1, 6)), ("bob", (1, 3)), ("cy", (1, 3))], (1, 6))
            self.told(rows, 5, [("ada", (1, 4)), ("bob", (1, 3)), ("cy", (1, 6))], (1, 4))

    def test_lengths_leave_nothing(self):
        self.told((("length", "ada", 1000),), 0, [("ada", (1, 1))], (0, 1))
        self.told((("length", "bob", 1), ("length", "ada", 2)), 0, [("ada", (2, 3)), ("bob", (1, 3))], (0, 1))
        self.told((("length", "bob", 1), ("of", "cy", (1, 2)), ("length", "ada", 2), ("length", "bob", 3)), 0,
                  [("ada", (1, 6)), ("bob", (1, 3)), ("cy", (1, 2))], (0, 1))

    def test_nothing_of_nought(self):
        full = ("of", "ada", (1, 1))
        self.told((full, ("left", "bob", (1, 2)), ("length", "cy", 5)), 0, [("ada", (1, 1))], (0, 1))
        self.told((("left", "bob", (1, 1)), ("left", "cy", (1, 2)), ("length", "dan", 5)), 0, [("bob", (1, 1))], (0, 1))
        self.told((full, ("left", "ada", (1, 2)), ("length", "ada", 5)), 0, [("ada", (1, 1))], (0, 1))
        rows = (("steps", "ada", ((5, (1, 1)), (None, (1, 2)))), ("length", "bob", 9))
        self.told(rows, 4, [("ada", (1, 1))], (0, 1))
        self.told(rows, 5, [("ada", (1, 2)), ("bob", (1, 2))], (0, 1))

    def test_all_kinds_together(self):
        # Unit 0: 3/10 and 1/10 are taken ahead, of 3/5 half, of 3/10 a third, and 1/5 goes by 3 and 5 of 8.
        self.told(MIXED, 0, [("ada", (17, 40)), ("bob", (1, 5)), ("cy", (3, 10)), ("dan", (3, 40))], (0, 1))
        # Unit 25: 3/10 and 1/4 are taken ahead, of 9/20 half, of 9/40 a third, and 3/20 goes by 3 and 5 of 8.
        self.told(MIXED, 25, [("ada", (63, 160)), ("bob", (13, 40)), ("cy", (9, 40)), ("dan", (9, 160))], (0, 1))

    def test_names_rise_as_texts(self):
        rows = tuple(("of", name, (1, 8)) for name in ("b", "ab", "zz", "a", "z", "aaaaaaaa", "ba", "abc"))
        self.assertEqual([name for name, part in parts_at(rows, 0)],
                         ["a", "aaaaaaaa", "ab", "abc", "b", "ba", "z", "zz"])

    def test_against_another_reckoning(self):
        draw = random.Random(17)
        tried = 0
        while tried < 400:
            rows = drawn_rows(draw)
            self.assertIs(is_rows(rows), True, rows)
            if not too_much(rows):
                tried += 1
                for unit in (0, draw.randint(1, 45), 10 ** 9):
                    self.told(rows, unit, *wanted_parts(rows, unit))

    def test_all_parts_and_what_waits_are_together_one(self):
        draw = random.Random(23)
        for turn in range(400):
            rows = drawn_rows(draw)
            if not too_much(rows):
                told = parts_at(rows, turn % 50)
                self.assertEqual(sum(Fraction(*part) for name, part in told) + Fraction(*waits_at(rows, turn % 50)), 1)
                self.assertTrue(all(part[0] > 0 and Fraction(*part).denominator == part[1] for name, part in told))
                names = [name for name, part in told]
                self.assertEqual(names, sorted(set(names)))

    def test_rows_in_any_order_where_left_rows_keep_theirs(self):
        wanted = parts_at(MIXED, 15)
        lefts = [row for row in MIXED if row[0] == "left"]
        for rows in itertools.permutations(MIXED):
            if [row for row in rows if row[0] == "left"] == lefts:
                self.assertEqual(parts_at(rows, 15), wanted)

    def test_what_is_told_is_the_askers_own(self):
        first = parts_at(MIXED, 3)
        second = parts_at(MIXED, 3)
        self.assertEqual(first, second)
        self.assertIsNot(first, second)
        first.clear()
        second.append(("eve", (1, 2)))
        self.assertEqual(parts_at(MIXED, 3), wanted_parts(MIXED, 3)[0])
        none = parts_at((), 0)
        none.append(("eve", (1, 2)))
        self.assertEqual(parts_at((), 0), [])


class TestStretches(unittest.TestCase):
    def told(self, rows, first, many, wanted):
        with self.subTest(rows=rows, first=first, many=many):
            told = unit_stretches(rows, first, many)
            self.assertIs(type(told), list)
            self.assertEqual([type(stretch) for stretch in told], [tuple] * len(told))
            self.assertEqual(told, wanted)

    def test_without_steps_rows(self):
        for rows in ((), (("of", "ada", (1, 2)), ("left", "bob", (1, 2)), ("length", "cy", 7))):
            self.told(rows, 0, 1, [(0, 1)])
            self.told(rows, 5, 100, [(5, 100)])
            self.told(rows, 10 ** 30, 10 ** 20, [(10 ** 30, 10 ** 20)])

    def test_one_steps_row(self):
        rows = (("of", "ada", (1, 2)), STEPS)
        self.told(rows, 0, 5, [(0, 5)])
        self.told(rows, 0, 10, [(0, 10)])
        self.told(rows, 0, 11, [(0, 10), (10, 1)])
        self.told(rows, 9, 1, [(9, 1)])
        self.told(rows, 9, 2, [(9, 1), (10, 1)])
        self.told(rows, 10, 1, [(10, 1)])
        self.told(rows, 10, 10, [(10, 10)])
        self.told(rows, 10, 11, [(10, 10), (20, 1)])
        self.told(rows, 0, 100, [(0, 10), (10, 10), (20, 10), (30, 70)])
        self.told(rows, 15, 10, [(15, 5), (20, 5)])
        self.told(rows, 29, 10 ** 20, [(29, 1), (30, 10 ** 20 - 1)])
        self.told(rows, 30, 5, [(30, 5)])
        self.told(rows, 10 ** 30, 5, [(10 ** 30, 5)])

    def test_the_least_and_greatest_uptos(self):
        rows = (("steps", "ada", ((1, (1, 2)), (10 ** 6, (1, 3)), (None, (1, 4)))),)
        self.told(rows, 0, 1, [(0, 1)])
        self.told(rows, 0, 10 ** 6, [(0, 1), (1, 10 ** 6 - 1)])
        self.told(rows, 0, 10 ** 6 + 1, [(0, 1), (1, 10 ** 6 - 1), (10 ** 6, 1)])

    def test_several_steps_rows_and_uptos_that_meet(self):
        other = ("steps", "ada", ((5, (1, 60)), (20, (1, 50)), (25, (1, 40)), (None, (1, 30))))
        for rows in ((STEPS, other), (other, ("length", "cy", 3), STEPS)):
            self.told(rows, 0, 40, [(0, 5), (5, 5), (10, 10), (20, 5), (25, 5), (30, 10)])
            self.told(rows, 19, 2, [(19, 1), (20, 1)])
            self.told(rows, 20, 5, [(20, 5)])
        self.told((STEPS, STEPS), 0, 15, [(0, 10), (10, 5)])

    def test_cut_where_the_parts_on_both_sides_are_alike(self):
        self.told((("steps", "ada", ((5, (1, 2)), (None, (1, 2)))),), 3, 4, [(3, 2), (5, 2)])

    def test_against_going_unit_by_unit(self):
        draw = random.Random(29)
        for turn in range(400):
            rows = drawn_rows(draw)
            first, many = draw.randint(0, 45), draw.randint(1, 45)
            uptos = {upto for kind, name, told in rows if kind == "steps" for upto, part in told}
            wanted = []
            for unit in range(first, first + many):
                if unit == first or unit in uptos:
                    wanted.append((unit, 0))
                wanted[-1] = (wanted[-1][0], wanted[-1][1] + 1)
            self.told(rows, first, many, wanted)

    def test_within_a_stretch_all_units_are_parted_alike(self):
        for first, many in unit_stretches(MIXED, 4, 40):
            for unit in range(first, first + many):
                self.assertEqual(parts_at(MIXED, unit), parts_at(MIXED, first))

    def test_what_is_told_is_the_askers_own(self):
        for rows in ((), MIXED):
            first = unit_stretches(rows, 0, 50)
            kept = list(first)
            first.append((50, 1))
            first[0] = (7, 7)
            second = unit_stretches(rows, 0, 50)
            self.assertEqual(second, kept)
            self.assertIsNot(first, second)


if __name__ == "__main__":
    unittest.main()
