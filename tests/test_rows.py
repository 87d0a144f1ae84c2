"""Promises 4 and 5: what a work's rows are."""

import copy
import random
import re
import unittest
from math import gcd

from royaltree.parting import is_rows

HALF = (1, 2)
OF = ("of", "ada", (1, 3))
STEPS = ("steps", "bob", ((10, (1, 10)), (20, (1, 5)), (None, HALF)))
LEFT = ("left", "cy", (1, 4))
LENGTH = ("length", "ada", 250)
ALL_KINDS = (OF, STEPS, LEFT, LENGTH)


def steps(*uptos):
    return (("steps", "bob", tuple((upto, HALF) for upto in uptos)),)


def rated(at, part):
    """A steps row whose part at that place is this one."""
    parts = [HALF, HALF, HALF]
    parts[at] = part
    return (("steps", "bob", tuple(zip((5, 9, None), parts))),)


def is_number(thing, least, most):
    return type(thing) is int and least <= thing <= most


def wanted_part(thing):
    return (type(thing) is tuple and len(thing) == 2 and is_number(thing[1], 1, 60)
            and is_number(thing[0], 1, thing[1]) and gcd(*thing) == 1)


def wanted_rates(thing):
    if type(thing) is not tuple or len(thing) not in (2, 3, 4):
        return False
    if any(type(rate) is not tuple or len(rate) != 2 or not wanted_part(rate[1]) for rate in thing):
        return False
    uptos = [rate[0] for rate in thing]
    if uptos.pop() is not None or not all(is_number(upto, 1, 10 ** 6) for upto in uptos):
        return False
    return uptos == sorted(set(uptos))


def wanted_row(thing):
    if type(thing) is not tuple or len(thing) != 3 or type(thing[0]) is not str or type(thing[1]) is not str:
        return False
    if not re.fullmatch("[a-z]{1,8}", thing[1]):
        return False
    if thing[0] == "length":
        return is_number(thing[2], 1, 1000)
    if thing[0] == "steps":
        return wanted_rates(thing[2])
    return thing[0] in ("of", "left") and wanted_part(thing[2])


def wanted_rows(thing):
    """Promise 4 read once more, by other means than the program's."""
    return (type(thing) is tuple and len(thing) <= 8 and all(wanted_row(row) for row in thing)
            and sum(row[0] == "left" for row in thing) <= 3)


def deep(thing, many):
    for turn in range(many):
        thing = (thing,) if turn % 3 == 0 else [thing] if turn % 3 == 1 else {"of": thing}
    return thing


OTHER_THINGS = (
    None, True, False, 0, 1, -1, 2, 8, 60, 61, 1000, 1001, 10 ** 6, 10 ** 6 + 1, -10 ** 40, 10 ** 4000,
    "", "of", "steps", "left", "length", "ada", "Ada", "ninechars", "a b", "~", "1/2",
    (), (1,), (1, 2), (2, 4), (0, 1), (1, 1), (1, 61), (3, 2), (1, 2, 3), (True, 2), (1, True), (-1, -2), (-1, 2),
    (None, (1, 2)), (5, (1, 2)), ((None, (1, 2)),), ((5, (1, 2)), (None, (1, 2))), [], [1, 2], [None, (1, 2)],
    {}, {"of": 1}, {0: "of", 1: "ada", 2: (1, 2)}, {(1, 2): [3]}, deep(None, 8), deep((1, 2), 7), deep("of", 9),
)


def changed_at_each_place(thing, other):
    """The thing with other put in its place, or in that of each thing within it, one at a time."""
    yield other
    if isinstance(thing, (tuple, list)):
        for at, inner in enumerate(thing):
            for changed in changed_at_each_place(inner, other):
                yield type(thing)([*thing[:at], changed, *thing[at + 1:]])


def made_otherwise(thing):
    """The thing with one tuple of it made a list, one thing left out, or one put in twice."""
    if isinstance(thing, tuple):
        yield list(thing)
        for at, inner in enumerate(thing):
            yield thing[:at] + thing[at + 1:]
            yield thing[:at + 1] + thing[at:]
            for changed in made_otherwise(inner):
                yield (*thing[:at], changed, *thing[at + 1:])


class RowsCase(unittest.TestCase):
    def right(self, thing):
        with self.subTest(thing=thing):
            self.assertIs(is_rows(thing), True)

    def wrong(self, thing):
        with self.subTest(thing=thing):
            self.assertIs(is_rows(thing), False)

    def right_and_wrong(self, right, wrong):
        for thing in right:
            self.right(thing)
        for thing in wrong:
            self.wrong(thing)


class TestRows(RowsCase):
    def test_rows_of_each_kind(self):
        self.right(())
        for row in ALL_KINDS:
            self.right((row,))
            self.right((row, row))
        self.right(ALL_KINDS)
        self.right(ALL_KINDS[::-1])

    def test_how_many_rows(self):
        for row in (OF, STEPS, LENGTH):
            self.right((row,) * 8)
            self.wrong((row,) * 9)
        self.right(ALL_KINDS * 2)
        self.wrong(ALL_KINDS * 2 + (OF,))
        self.wrong((OF,) * 1000)

    def test_how_many_left_rows(self):
        self.right((LEFT,) * 3)
        self.right((LEFT, OF, LEFT, LENGTH, LEFT))
        self.wrong((LEFT,) * 4)
        self.wrong((LEFT, OF, LEFT, LENGTH, LEFT, STEPS, LEFT))
        self.wrong((LEFT,) * 8)

    def test_rows_that_are_too_much_are_rows(self):
        self.right((("of", "ada", (1, 1)),) * 8)

    def test_kinds(self):
        for kind in ("", "Of", "OF", "of ", " of", "off", "lefts", "right", None, 1, True, ("of",), ["of"], {"of": 1}):
            for row in ALL_KINDS:
                self.wrong(((kind, "ada", row[2]),))
        for kind in ("steps", "length"):
            self.wrong(((kind, "ada", HALF),))
        for kind in ("of", "left", "length"):
            self.wrong(((kind, "ada", STEPS[2]),))
        for kind in ("of", "left", "steps"):
            self.wrong(((kind, "ada", 250),))

    def test_names(self):
        right = ("a", "z", "az", "of", "coin", "abcdefgh", "zzzzzzzz")
        wrong = ("", "abcdefghi", "Ada", "A", "adA", "a b", " ada", "ada ", "a1", "1", "a_b", "a-b", "`", "{", "~",
                 "@", "[", "ada\n", "\u00e4", "\u00df", "\u03b1", "ad\u00e1", None, 1, True, ("a",), ["a"],
                 ("a", "d", "a"), {"a": 1}, {})
        for kind, name, told in ALL_KINDS:
            self.right_and_wrong([((kind, name, told),) for name in right], [((kind, name, told),) for name in wrong])

    def test_parts(self):
        right = ((1, 1), (1, 2), (1, 60), (59, 60), (7, 30), (58, 59))
        wrong = ((0, 1), (0, 60), (2, 1), (61, 60), (3, 2), (60, 59), (1, 61), (60, 61), (1, 0), (0, 0), (-1, 2),
                 (1, -2), (-1, -2), (-1, 1), (2, 2), (2, 4), (30, 60), (60, 60), (57, 60), (1,), (1, 2, 3), (),
                 (True, 2), (1, True), (True, True), (False, 1), (None, 2), (1, None), ("1", "2"), ((1,), 2), [1, 2],
                 "1/2", 1, True, None, {1: 2}, (10 ** 50, 10 ** 50 + 1), (1, 10 ** 50))
        for kind in ("of", "left"):
            self.right_and_wrong([((kind, "ada", part),) for part in right], [((kind, "ada", part),) for part in wrong])
        for at in range(3):
            self.right_and_wrong([rated(at, part) for part in right], [rated(at, part) for part in wrong])

    def test_how_many_rates(self):
        self.right_and_wrong(
            [steps(1, None), steps(1, 2, None), steps(1, 2, 3, None)],
            [steps(), steps(None), steps(1), steps(1, 2, 3, 4, None), steps(1, 2, 3, 4, 5, 6, None)])

    def test_uptos(self):
        self.right_and_wrong(
            [steps(10 ** 6, None), steps(1, 10 ** 6, None), steps(999998, 999999, 10 ** 6, None)],
            [steps(0, None), steps(-1, None), steps(10 ** 6 + 1, None), steps(1, 10 ** 6 + 1, None),
             steps(0, 1, None), steps(-5, 5, None), steps(10 ** 40, None),
             steps(5, 5, None), steps(6, 5, None), steps(1, 3, 3, None), steps(1, 3, 2, None), steps(3, 1, 4, None),
             steps(2, 1, None), steps(True, None), steps(False, None), steps(True, 2, None), steps("5", None),
             steps((5,), None), steps([5], None), steps({}, None)])

    def test_the_last_upto_is_none_and_no_other(self):
        self.wrong(steps(1, 2))
        self.wrong(steps(1, 2, 3))
        self.wrong(steps(1, 2, 3, 4))
        self.wrong(steps(None, None))
        self.wrong(steps(None, 5))
        self.wrong(steps(None, 5, None))
        self.wrong(steps(5, None, None))
        self.wrong(steps(5, None, 7, None))
        for last in (0, False, "", (), 10 ** 6, 10 ** 6 + 1, "None"):
            self.wrong(steps(5, last))

    def test_lengths(self):
        self.right_and_wrong(
            [(("length", "ada", length),) for length in (1, 2, 999, 1000)],
            [(("length", "ada", length),) for length in
             (0, -1, 1001, 10 ** 6, -10 ** 30, True, False, None, "5", (5,), [5], (1, 2), {5: 5})])

    def test_lists_for_tuples(self):
        self.wrong([])
        self.wrong([OF])
        self.wrong((list(OF),))
        self.wrong((("of", "ada", [1, 2]),))
        self.wrong((("steps", "ada", list(STEPS[2])),))
        self.wrong((("steps", "ada", ([5, HALF], (None, HALF))),))
        self.wrong((("steps", "ada", ((5, [1, 2]), (None, HALF))),))

    def test_rows_and_rates_of_too_few_or_too_many_things(self):
        for row in ALL_KINDS:
            self.wrong(row)
            self.wrong((row[:2],))
            self.wrong((row + (1,),))
            self.wrong((row, ()))
        self.wrong((("steps", "ada", ((5,), (None, HALF))),))
        self.wrong((("steps", "ada", ((5, HALF, 1), (None, HALF))),))
        self.wrong((("steps", "ada", (5, HALF)),))

    def test_one_wrong_row_anywhere(self):
        for at in range(8):
            rows = [OF] * 8
            rows[at] = ("of", "ada", (2, 4))
            self.wrong(tuple(rows))


class TestAnything(RowsCase):
    def test_things_of_other_makes(self):
        for thing in OTHER_THINGS:
            (self.right if thing == () and type(thing) is tuple else self.wrong)(thing)
            self.wrong((thing,))
            self.wrong([thing])
            self.wrong({"of": thing})

    def test_other_things_at_each_place(self):
        seen = {True: 0, False: 0}
        for other in OTHER_THINGS:
            for thing in changed_at_each_place(ALL_KINDS, other):
                told = is_rows(thing)
                self.assertIs(type(told), bool)
                self.assertEqual(told, wanted_rows(thing), thing)
                seen[told] += 1
        self.assertTrue(seen[True] > 50 and seen[False] > 500)

    def test_each_tuple_made_otherwise(self):
        for once in made_otherwise(ALL_KINDS):
            self.assertIs(is_rows(once), wanted_rows(once), once)
            for twice in made_otherwise(once):
                self.assertIs(is_rows(twice), wanted_rows(twice), twice)

    def test_many_changes_at_once(self):
        draw = random.Random(11)
        for turn in range(3000):
            thing = tuple(draw.choice(ALL_KINDS) for row in range(draw.randint(0, 9)))
            if draw.random() < 0.5:
                thing = draw.choice(list(changed_at_each_place(thing, draw.choice(OTHER_THINGS))))
            self.assertIs(is_rows(thing), wanted_rows(thing), thing)

    def test_what_is_handed_in_stays(self):
        for thing in ([list(OF), [STEPS]], {"of": [1, 2]}, (["of"], [LEFT], {"a": [None]}), [[["of", "ada", [1, 2]]]],
                      (("of", "ada", [1, 2]),), (("steps", "ada", [[5, [1, 2]], [None, [1, 2]]]),)):
            kept = copy.deepcopy(thing)
            self.wrong(thing)
            self.assertEqual(thing, kept)
            self.wrong(thing)


if __name__ == "__main__":
    unittest.main()
