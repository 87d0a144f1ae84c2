"""Promise 18: a desk's answers to texts of rows and asks."""

import random
import unittest

from plaintexts import drawn_fault, drawn_order, wanted_reading
from reckoning import PEOPLE, WORKS, drawn_book, drawn_ending_book
from royaltree.desk import run
from royaltree.errors import BadRow, RoyalError
from royaltree.texts import book_of, book_text

HEAD = ("half 10", "person ada", "person bob", "work ode", "work song")
# Of ode a quarter is ada's and a half song's; of song a third is ode's.
RING = HEAD + ("of ode ada 1/4", "of ode song 1/2", "of song ode 1/3")
RIGHT_ASKS = ("flows ada 5", "flows ode 5", "due ada 5", "waits ode 5", "came 5", "statement 5", "strike ode 5")


class DeskCase(unittest.TestCase):
    def answers(self, rows, *wanted):
        text = "\n".join(rows)
        with self.subTest(text=text):
            told = run(text)
            self.assertEqual(told, list(wanted))
            self.assertEqual([type(told)] + [type(one) for one in told], [list] + [str] * len(told))
            again = run(text)
            self.assertEqual(again, told)
            self.assertIsNot(again, told)

    def bad(self, number, *rows):
        text = "\n".join(rows)
        with self.subTest(text=text):
            with self.assertRaises(RoyalError) as caught:
                run(text)
            self.assertIs(type(caught.exception), BadRow)
            self.assertEqual(caught.exception.row, number)
            self.assertIs(type(caught.exception.row), int)

    def last_bad(self, *rows):
        """The last one of these rows is the first that is wrong, whatever stands behind it or is empty."""
        self.bad(len(rows) - 1, *rows)
        self.bad(len(rows) - 1, *rows, "came 5", "no such row", "person ada")
        self.bad(2 * len(rows) - 1, *[part for row in rows for part in ("", row)], "")
        run("\n".join(rows[:-1]))


class TestAnswers(DeskCase):
    def test_texts_without_asks(self):
        for rows in ((), ("",), ("", ""), HEAD, ("half 182",), RING + ("", "")):
            self.answers(rows)

    def test_flows_of_a_person(self):
        rows = HEAD + ("person cy", "hand ada 5 bob 1/2", "hand ada 7 cy 1/3", "hand bob 6 ada 1/4")
        self.answers(rows + ("flows ada 0", "flows ada 4", "flows ada 5", "flows ada 6", "flows ada 7", "flows bob 5",
                             "flows bob 6", "flows cy 9999"),
                     "ada 1", "ada 1", "ada 1/2 ; bob 1/2", "ada 4/7 ; bob 3/7", "ada 8/21 ; bob 3/7 ; cy 4/21",
                     "bob 1", "ada 1/7 ; bob 6/7", "cy 1")

    def test_flows_of_a_work_in_a_ring(self):
        self.answers(RING + ("flows ode 0", "flows song 9999", "known song 60 bob", "flows ode 59", "flows ode 60"),
                     "ada 3/10 ; ode 3/10 ; song 2/5", "ada 1/10 ; ode 1/10 ; song 4/5",
                     "ada 3/10 ; ode 3/10 ; song 2/5", "ada 3/10 ; bob 2/5 ; ode 3/10")

    def test_flows_with_nothing_sold(self):
        rows = HEAD + ("steps ode ada 1/10 5 1/5", "sold 0 ode 100 100 coin")
        self.answers(rows + ("flows ode 0", "flows ode 5"), "ada 1/10 ; ode 9/10", "ada 1/10 ; ode 9/10")

    def test_due(self):
        rows = HEAD + ("of ode ada 1", "keep ada 1/4", "sold 5 ode 1 13 coin", "wrong 6 ada 4", "advance 7 ada 3")
        self.answers(rows + ("due ada 0", "due ada 4", "due ada 5", "due ada 6", "due ada 7", "due ada 8", "due ada 9",
                             "due ada 18", "due ada 19", "due ada 9999", "due bob 9999"),
                     "0 0 0 0 0 0", "0 0 0 0 0 0", "9 3 0 0 0 0", "9 3 0 0 4 0", "9 3 0 0 4 3", "9 3 0 0 4 3",
                     "0 3 7 2 0 0", "0 3 7 2 0 0", "0 0 7 6 0 0", "0 0 7 6 0 0", "0 0 0 0 0 0")

    def test_due_with_open_and_kept_below_1_and_below_0(self):
        rows = HEAD + ("of ode ada 1/3", "keep ada 1/2", "sold 5 ode 1 1 coin")
        # A sixth is open, a sixth is kept.
        self.answers(rows + ("due ada 5", "due ada 9"), "0 0 0 0 0 0", "0 0 0 0 0 0")
        self.answers(rows + ("back 6 ode 1 2 coin", "due ada 6", "due ada 9"), "-1 0 0 0 0 0", "-1 0 0 0 0 0")
        self.answers(rows + ("back 6 ode 1 4 coin", "due ada 6"), "-1 0 0 0 0 0")
        self.answers(rows + ("back 6 ode 1 5 coin", "due ada 6"), "-2 0 0 0 0 0")
        self.answers(HEAD + ("of ode ada 1", "sold 5 ode 1 1 coin", "back 6 ode 1 4 coin", "due ada 6"),
                     "-3 0 0 0 0 0")
        self.answers(rows + ("sold 6 ode 1 13 coin", "due ada 6"), "2 2 0 0 0 0")

    def test_due_of_wrong_and_advance_that_are_not_worked_off(self):
        rows = HEAD + ("of ode ada 1", "sold 5 ode 1 10 coin", "wrong 5 ada 6", "advance 5 ada 7", "due ada 9",
                       "wrong 10 ada 100", "due ada 99")
        self.answers(rows, "0 0 10 0 0 3", "0 0 10 0 100 3")

    def test_waits(self):
        rows = RING + ("sold 5 ode 1 10 coin", "rate eur 0 1/3", "sold 6 song 2 1 eur")
        self.answers(rows + ("waits ode 4", "waits ode 5", "waits song 5", "waits song 6", "waits ode 9999"),
                     "0", "3", "4", "4", "3")
        self.answers(rows + ("back 7 song 1 40 eur", "waits song 7", "waits ode 7"), "-7", "1")
        self.answers(rows + ("known song 8 bob", "waits song 7", "waits song 8", "due bob 8"), "4", "0", "4 0 0 0 0 0")

    def test_came(self):
        rows = HEAD + ("rate eur 0 2/3", "sold 3 ode 5 2 eur", "came 2", "came 3", "back 4 ode 1 2 coin", "came 4",
                       "sold 5 ode 1 1 eur", "came 5", "came 9999", "came 0", "back 6 ode 1 9 coin", "came 6")
        self.answers(rows, "0", "1", "-1", "0", "0", "0", "-9")
        self.answers(("came 0", "came 9999"), "0", "0")

    def test_statement_of_no_people(self):
        self.answers(("statement 0", "statement 9999", "work ode", "sold 3 ode 1 1 coin", "statement 0"), "-", "-", "-")

    def test_statement(self):
        rows = HEAD + ("person cy", "of ode bob 1/2", "of ode ada 1/3", "keep bob 1/2", "sold 5 ode 1 12 coin",
                       "advance 5 bob 2", "sold 15 ode 1 6 coin")
        self.answers(rows + ("statement 0", "statement 1", "statement 2", "statement 3", "statement 9999"),
                     "ada 0 4 ; bob 2 1 ; cy 0 0", "ada 0 2 ; bob 0 4 ; cy 0 0", "ada 0 0 ; bob 0 2 ; cy 0 0",
                     "ada 0 0 ; bob 0 0 ; cy 0 0", "ada 0 0 ; bob 0 0 ; cy 0 0")
        self.answers(("person ada", "statement 0"), "ada 0 0")

    def test_strike(self):
        rows = RING + ("sold 5 ode 1 10 coin",)
        self.answers(rows + ("strike ode 4", "strike ode 5", "strike song 4", "strike song 5", "strike song 9999"),
                     "-", "ada song", "-", "ada ode", "ada ode")
        self.answers(("work ode", "strike ode 0", "sold 0 ode 1 1 coin", "strike ode 0"), "-", "-")

    def test_names_like_words_of_rows_and_asks(self):
        rows = ("person due", "person of", "work strike", "work came", "of strike due 1/2", "sold 3 strike 1 9 coin",
                "due due 3", "waits strike 3", "strike strike 3", "flows came 3", "flows of 3", "came 3")
        self.answers(rows, "4 0 0 0 0 0", "4", "due", "came 1", "of 1", "9")


class TestOrder(DeskCase):
    def test_each_of_the_book_as_it_stands_by_the_rows_ahead(self):
        rows = ("came 9", "person ada", "due ada 9", "statement 0", "half 10", "work ode", "waits ode 9", "flows ode 9",
                "sold 5 ode 1 12 coin", "waits ode 9", "strike ode 9", "of ode ada 1/3", "waits ode 9", "flows ode 9",
                "due ada 9", "statement 0", "strike ode 9", "keep ada 1/2", "due ada 9", "person bob",
                "known ode 7 bob", "waits ode 9", "statement 0", "hand bob 6 ada 1/2", "statement 0", "came 9",
                "wrong 0 ada 1", "statement 0", "sold 4 ode 1 9 coin", "came 9", "waits ode 6")
        self.answers(rows, "0", "0 0 0 0 0 0", "ada 0 0", "0", "ode 1", "12", "-", "8", "ada 1/3 ; ode 2/3",
                     "0 0 0 4 0 0", "ada 0 4", "ada", "0 2 0 2 0 0", "0", "ada 0 2 ; bob 0 8", "ada 0 4 ; bob 0 4",
                     "12", "ada 1 3 ; bob 0 4", "21", "14")

    def test_rows_behind_an_ask_are_no_matter_to_it(self):
        rows = RING + ("sold 5 ode 1 10 coin",)
        asks = ("flows ode 9", "due ada 9", "waits ode 9", "came 9", "statement 0", "strike song 9")
        later = ("person cy", "work tune", "of song ada 1/3", "hand ada 0 cy 1/2", "known ode 0 cy", "keep ada 1/2",
                 "sold 1 song 1 50 coin", "wrong 0 ada 2")
        wanted = run("\n".join(rows + asks))
        self.answers(rows + asks + later, *wanted)
        behind = run("\n".join(rows + asks + later + asks))
        self.assertEqual(behind[:6], wanted)
        self.assertEqual([one for one, other in zip(behind[6:], wanted) if one == other], [])

    def test_the_same_ask_several_times(self):
        rows = RING + ("sold 5 ode 1 10 coin",)
        for ask in RIGHT_ASKS:
            wanted = run("\n".join(rows + (ask,)))
            self.answers(rows + (ask,) * 3, *wanted * 3)
            self.answers(rows + (ask, "", ask, "came 0", ask), wanted[0], wanted[0], "0", wanted[0])

    def test_empty_rows_are_passed_over(self):
        rows = RING + ("sold 5 ode 1 10 coin",) + RIGHT_ASKS
        wanted = run("\n".join(rows))
        self.answers([part for row in rows for part in ("", row, "")], *wanted)

    def test_answers_are_the_askers_own(self):
        text = "\n".join(RING + RIGHT_ASKS)
        told = run(text)
        wanted = list(told)
        told.clear()
        self.assertEqual(run(text), wanted)


class TestEndless(DeskCase):
    ENDLESS = HEAD + ("person cy", "hand ada 5 bob 1", "hand bob 3 ada 1", "of ode ada 1/2", "sold 6 ode 1 8 coin")

    def test_names_of_each_ask(self):
        self.answers(self.ENDLESS + ("flows ada 4", "flows ada 5", "flows bob 5", "flows ode 5", "flows cy 5",
                                     "flows song 5"),
                     "ada 1", "endless ada bob", "endless ada bob", "endless ada bob", "cy 1", "song 1")
        self.answers(self.ENDLESS + ("due ada 5", "due ada 6", "due cy 6", "waits song 6", "waits ode 5", "came 5",
                                     "came 6", "statement 0", "statement 1", "strike ode 5", "strike ode 6",
                                     "strike song 9"),
                     "0 0 0 0 0 0", "endless ada bob", "endless ada bob", "endless ada bob", "0", "0",
                     "endless ada bob", "endless ada bob", "endless ada bob", "-", "endless ada bob",
                     "endless ada bob")

    def test_of_one_name(self):
        self.answers(("work ode", "of ode ode 1", "flows ode 0", "came 0", "sold 0 ode 1 1 coin", "came 0",
                      "statement 0"), "endless ode", "0", "endless ode", "endless ode")

    def test_statements_up_to_the_halfs_end(self):
        rows = HEAD + ("of ode ode 1", "sold 10 ode 1 8 coin", "statement 0", "statement 1", "statement 2", "came 9")
        self.answers(rows, "ada 0 0 ; bob 0 0", "endless ode", "endless ode", "0")

    def test_of_the_struck_book(self):
        rows = HEAD + ("work tune", "left ode song 1/2", "left ode tune 1", "of tune ode 1", "sold 4 ode 1 8 coin",
                       "strike song 3", "strike song 4", "strike tune 4", "came 4")
        self.answers(rows, "-", "endless ode tune", "ode song", "8")

    def test_an_ask_refused_so_is_no_matter_to_the_others(self):
        self.answers(self.ENDLESS + ("came 9", "flows cy 0", "came 5", "came 9"),
                     "endless ada bob", "cy 1", "0", "endless ada bob")

    def test_names_like_the_answers_word(self):
        self.answers(("work endless", "of endless endless 1", "flows endless 0"), "endless endless")


class TestBadRows(DeskCase):
    def test_ahead_of_all_answers(self):
        self.last_bad(*RING, *RIGHT_ASKS, "no such row")
        self.last_bad(*RIGHT_ASKS[4:6], "person Ada")
        self.last_bad(*TestEndless.ENDLESS, "came 9", "flows ada 9", "half 10")
        self.bad(2, "came 0", "", "zed", "came 10000", "half")

    def test_rows_as_a_books_text_has_them(self):
        for row in ("half 10", "person ada", "work ada", "person cY", "of ode eve 1/2", "of ode ada 2/4", "keep ada 0",
                    "rate coin 0 1", "sold 1 ode 1 1 eur", "back 1 ode 1 1 coin", "hand ada 1 ada 1/2", " ", "person",
                    "left ode ada 1/61", "steps ode ada 1/2 5", "length ode ada 0", "wrong 1 ode 1", "known ode 1 eve",
                    "person cy ", " person cy", "person  cy"):
            self.last_bad(*HEAD, row)
            self.last_bad(*HEAD, *RIGHT_ASKS, row)
        self.last_bad("came 0", *[f"person {sign}" for sign in "abcdefghijkl"], "came 0", "person m")
        self.last_bad(*HEAD, "keep ada 1/2", "due ada 9", "keep ada 1/2")
        self.last_bad("half 182", "came 0", "half 182")

    def test_words_too_few_or_too_many(self):
        for ask in RIGHT_ASKS:
            words = ask.split(" ")
            for many in range(1, len(words)):
                self.last_bad(*HEAD, " ".join(words[:many]))
            for more in ("5", "0", "ada", "ode", "", "half"):
                self.last_bad(*HEAD, f"{ask} {more}")
            self.last_bad(*HEAD, " ".join(words[:1] + words[2:]))
            self.last_bad(*HEAD, " ".join(words[1:]))
        for ask in ("came ada 5", "statement ada 5", "statement 5 10", "came", "statement", "flows 5", "due 5 ada"):
            self.last_bad(*HEAD, ask)

    def test_blanks_and_other_signs(self):
        for ask in RIGHT_ASKS:
            words = ask.split(" ")
            for at in range(len(words) + 1):
                self.last_bad(*HEAD, " ".join(words[:at] + [""] + words[at:]))
            for row in (ask + ".", ask.replace(" ", "\t"), ask.title(), ask.upper(), ask[1:], "#" + ask, ask + "\r"):
                self.last_bad(*HEAD, row)

    def test_days_and_halves(self):
        for ask in ("flows ada {}", "flows ode {}", "due ada {}", "waits ode {}", "came {}", "statement {}",
                    "strike ode {}"):
            for number in (0, 1, 9998, 9999):
                self.assertEqual(len(run("\n".join(HEAD + (ask.format(number),)))), 1)
            for number in ("10000", "-1", "-0", "+1", "00", "01", "1.0", "1/1", "1/2", "99999", "9" * 5000, "one", "",
                           "0x1", "1_0", "1e1", "half", "None"):
                self.last_bad(*HEAD, ask.format(number))

    def test_names_that_are_not_there(self):
        for ask in ("flows {} 5", "due {} 5", "waits {} 5", "strike {} 5"):
            for name in ("eve", "Ada", "Ode", "a", "coin", "eur", "1", "-", "abcdefghi", "half"):
                self.last_bad(*HEAD, "rate eur 0 1", ask.format(name))

    def test_names_of_the_other_kind(self):
        for ask in ("due ode 5", "due song 5", "waits ada 5", "waits bob 5", "strike ada 5", "strike bob 5"):
            self.last_bad(*HEAD, ask)

    def test_names_that_are_not_there_yet(self):
        for ask, row in (("flows ada 5", "person ada"), ("flows ode 5", "work ode"), ("due ada 5", "person ada"),
                         ("waits ode 5", "work ode"), ("strike ode 5", "work ode")):
            self.bad(0, ask, row)
            self.bad(1, "person bob", ask, row)
            self.assertEqual(len(run(f"{row}\n{ask}")), 1)

    def test_asks_are_no_rows_of_a_book(self):
        for ask in RIGHT_ASKS:
            with self.assertRaises(BadRow):
                book_of("\n".join(HEAD + (ask,)))


class TestAll(DeskCase):
    def drawn_asks(self, draw, rows):
        """The rows with asks between them, most of which are right there."""
        rows = list(rows)
        for turn in range(8):
            at = draw.randint(len(rows) // 3, len(rows))
            day = draw.randint(0, 60)
            person, work = draw.choice(PEOPLE), draw.choice(WORKS)
            rows.insert(at, draw.choice((
                f"flows {draw.choice((person, work))} {day}", f"due {person} {day}", f"waits {work} {day}",
                f"came {day}", f"statement {draw.randint(0, 9)}", f"strike {work} {day}")))
        return rows

    def test_against_a_plain_desk(self):
        draw, told, answers = random.Random(121), {int: 0, tuple: 0}, []
        for turn in range(100):
            book = drawn_book(draw, whole_parts=0.3) if turn % 2 else drawn_ending_book(draw)
            rows = book_text(book).split("\n")
            if turn % 3:
                rows = drawn_order(draw, rows)
            rows = self.drawn_asks(draw, rows)
            for fault in range(turn % 4 // 2):
                rows = drawn_fault(draw, rows)
            wanted = wanted_reading("\n".join(rows), asks=True)
            told[type(wanted)] += 1
            if isinstance(wanted, int):
                self.bad(wanted, *rows)
            else:
                answers += wanted[1]
                self.assertEqual(run("\n".join(rows)), wanted[1])
        self.assertGreater(min(told.values()), 15)
        self.assertGreater(sum(answer.startswith("endless") for answer in answers), 5)
        self.assertGreater(len(set(answers)), 100)


if __name__ == "__main__":
    unittest.main()
