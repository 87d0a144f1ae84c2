"""Promise 17: the books that texts tell, and the rows that are refused."""

import random
import unittest

from plaintexts import drawn_fault, drawn_order, wanted_reading
from reckoning import book_with, drawn_book, drawn_ending_book, told_of
from royaltree.books import Book
from royaltree.errors import BadRow, RoyalError
from royaltree.ledger import Ledger
from royaltree.texts import book_of, book_text

# Behind these rows each row of RIGHT_ROWS is right.
HEAD = ("person ada", "person bob", "work ode", "work song", "rate eur 10 3/2", "sold 10 ode 9 90 eur")
RIGHT_ROWS = (
    "half 30", "person cy", "work tune", "of ode ada 1/4", "steps ode song 1/10 100 1/5",
    "steps ode ada 1/10 1 1/5 1000 1/7", "steps song ada 1/10 1 1/5 10 1/7 1000000 1", "left ode bob 1/2",
    "length ode ode 3", "hand ada 50 bob 1/2", "known ode 60 bob", "rate usd 0 3", "keep ada 1/10",
    "sold 11 song 5 100 eur", "back 12 ode 1 20 coin", "advance 5 bob 30", "wrong 0 ada 3")

LETTERS = "abcdefghijklmnopqrstuvwxyz"


class ReadCase(unittest.TestCase):
    def bad(self, number, *rows):
        """The text of these rows is refused with BadRow of that number."""
        text = "\n".join(rows)
        with self.subTest(text=text):
            with self.assertRaises(RoyalError) as caught:
                book_of(text)
            self.assertIs(type(caught.exception), BadRow)
            self.assertEqual(caught.exception.row, number)
            self.assertIs(type(caught.exception.row), int)

    def last_bad(self, *rows):
        """The last one of these rows is the first that is wrong; so it stays where more stand behind it."""
        self.bad(len(rows) - 1, *rows)
        self.bad(len(rows) - 1, *rows, "half 30", "no such row", "person zed")
        self.bad(2 * len(rows) - 1, *[part for row in rows for part in ("", row)], "")
        self.reads(*rows[:-1])

    def wrong_behind_head(self, row):
        self.last_bad(*HEAD, row)

    def reads(self, *rows):
        """These rows tell a book."""
        text = "\n".join(rows)
        with self.subTest(text=text):
            book = book_of(text)
            self.assertIs(type(book), Book)
            return book


class TestRead(ReadCase):
    def test_each_row_alone(self):
        for row in RIGHT_ROWS:
            self.assertIn(row, book_text(self.reads(*HEAD, row)).split("\n"))

    def test_all_rows(self):
        book = self.reads(*HEAD, *RIGHT_ROWS)
        other = book_with("ada bob cy", "ode song tune")
        other.put_half(30)
        other.put_rows("ode", (
            ("of", "ada", (1, 4)), ("steps", "song", ((100, (1, 10)), (None, (1, 5)))),
            ("steps", "ada", ((1, (1, 10)), (1000, (1, 5)), (None, (1, 7)))), ("left", "bob", (1, 2)),
            ("length", "ode", 3)))
        other.put_rows("song", (
            ("steps", "ada", ((1, (1, 10)), (10, (1, 5)), (10 ** 6, (1, 7)), (None, (1, 1)))),))
        other.hand_on("ada", 50, "bob", (1, 2))
        other.make_known("ode", 60, "bob")
        other.put_rate("eur", 10, (3, 2))
        other.put_rate("usd", 0, (3, 1))
        other.put_keep("ada", (1, 10))
        other.put_sold(10, "ode", 9, 90, "eur")
        other.put_sold(11, "song", 5, 100, "eur")
        other.put_back(12, "ode", 1, 20, "coin")
        other.put_debt("advance", 5, "bob", 30)
        other.put_debt("wrong", 0, "ada", 3)
        self.assertEqual(told_of(book), told_of(other))

    def test_no_rows_at_all(self):
        for text in ("", "\n", "\n\n\n", "half 182", "\nhalf 182\n\n"):
            self.assertEqual(told_of(book_of(text)), told_of(Book()))

    def test_empty_rows_are_passed_over(self):
        rows = HEAD + RIGHT_ROWS
        wanted = told_of(self.reads(*rows))
        self.assertEqual(told_of(self.reads("", "", *rows, "", "")), wanted)
        self.assertEqual(told_of(self.reads(*[part for row in rows for part in (row, "", "")])), wanted)

    def test_what_is_told_of_a_book_comes_back(self):
        draw = random.Random(111)
        for turn in range(60):
            book = drawn_book(draw)
            text = book_text(book)
            again = book_of(text)
            self.assertEqual(told_of(again), told_of(book))
            self.assertEqual(book_text(again), text)
            self.assertEqual(told_of(book_of(text)), told_of(book))

    def test_two_books_of_one_text_are_their_own(self):
        text = "\n".join(HEAD)
        one, other = book_of(text), book_of(text)
        one.add_person("zed")
        one.put_half(3)
        one.put_sold(1, "ode", 1, 1, "coin")
        self.assertEqual(told_of(other), told_of(book_of(text)))
        self.assertNotEqual(told_of(one), told_of(other))

    def test_a_book_of_a_text_is_told_more(self):
        book = self.reads(*HEAD, "half 30", "keep ada 1/2")
        book.put_half(40)
        book.put_keep("ada", (1, 3))
        book.put_back(10, "ode", 9, 1, "eur")
        self.assertEqual((book.half_days(), book.keep_of("ada")), (40, (1, 3)))

    def test_rows_in_any_order_that_a_book_takes(self):
        draw = random.Random(112)
        for turn in range(40):
            book = drawn_ending_book(draw)
            rows = book_text(book).split("\n")
            again = book_of("\n".join(drawn_order(draw, rows)))
            # Money and debts of one day stand as told; all else stands alike, whatever the order.
            for told in (told_of(again), told_of(book)):
                self.assertEqual(sorted(told["money"]), sorted(book.money_list()))
                self.assertEqual(sorted(told["debts"]), sorted(book.debt_list()))
            unordered = {"money": None, "debts": None}
            self.assertEqual({**told_of(again), **unordered}, {**told_of(book), **unordered})
            self.assertEqual(Ledger(again, 50).came_in(), Ledger(book, 50).came_in())

    def test_a_works_rows_keep_their_order_whatever_stands_between(self):
        book = self.reads("work ode", "person bob", "length ode bob 3", "person ada", "left ode ada 1/2", "work song",
                          "of song ada 1/3", "sold 3 ode 1 1 coin", "left ode bob 1/3", "of ode song 1/4",
                          "length song song 2")
        self.assertEqual(book.rows_of("ode"), (("length", "bob", 3), ("left", "ada", (1, 2)), ("left", "bob", (1, 3)),
                                               ("of", "song", (1, 4))))
        self.assertEqual(book.rows_of("song"), (("of", "ada", (1, 3)), ("length", "song", 2)))

    def test_money_and_debts_of_one_day_as_told(self):
        book = self.reads("person ada", "work b", "work a", "sold 5 b 1 1 coin", "sold 5 a 1 1 coin",
                          "sold 2 b 1 1 coin", "sold 5 b 1 1 coin", "wrong 7 ada 3", "advance 7 ada 2", "wrong 1 ada 1")
        self.assertEqual([row[1:3] for row in book.money_list()], [(2, "b"), (5, "b"), (5, "a"), (5, "b")])
        self.assertEqual([row[::3] for row in book.debt_list()], [("wrong", 1), ("wrong", 3), ("advance", 2)])

    def test_names_like_words_of_rows(self):
        rows = ("person half", "person person", "person of", "person coin", "person hand", "work sold", "work steps",
                "work work", "work back", "of steps of 1/2", "left steps left 1/2")
        self.last_bad(*rows)
        book = self.reads(*rows[:-1], "steps steps coin 1/9 3 1/8", "length work steps 5", "hand of 3 half 1/2",
                          "known sold 5 person", "rate half 0 2", "rate sold 1 3", "keep coin 1/2", "keep half 1",
                          "sold 3 sold 4 5 half", "sold 3 back 4 5 coin", "back 3 back 4 5 sold", "advance 3 coin 4",
                          "wrong 3 hand 9", "half 5", "work wrong")
        self.assertEqual(book.money_list(), [("sold", 3, "sold", 4, 5, "half"), ("sold", 3, "back", 4, 5, "coin"),
                                             ("back", 3, "back", 4, 5, "sold")])
        self.assertEqual(told_of(book_of(book_text(book))), told_of(book))

    def test_texts_of_more_than_200_rows(self):
        people = [f"person p{sign}" for sign in LETTERS[:12]]
        works = [f"work w{sign}" for sign in LETTERS[:12]]
        rows = [f"of w{sign} w{other} 1/8" for sign in LETTERS[:12] for other in LETTERS[:8]]
        hands = [f"hand pa {day} pb 1/60" for day in range(30)]
        known = [f"known w{sign} 3 pa" for sign in LETTERS[:12]]
        rates = [f"rate eur {day} 1/1000" for day in range(20)]
        keeps = [f"keep p{sign} 1/60" for sign in LETTERS[:12]]
        money = [f"{kind} 9999 wa 1 1 eur" for turn in range(20) for kind in ("sold", "back")]
        debts = [f"{kind} 9999 pa 1" for turn in range(10) for kind in ("advance", "wrong")]
        full = ["half 400"] + people + works + rows + hands + known + rates + keeps + money + debts
        self.assertGreater(len(full), 200)
        book = self.reads(*full)
        self.assertEqual(book_text(book), "\n".join(full))
        self.reads(*[part for row in full for part in (row, "")])
        self.bad(len(full), *full, "person zed")
        self.reads(*[""] * 1000, "person ada")
        self.bad(1000, *[""] * 1000, "person Ada")


class TestWritten(ReadCase):
    def test_the_first_wrong_row_empty_rows_counted(self):
        self.bad(0, "zed")
        self.bad(0, "zed", "zed")
        self.bad(1, "", "zed", "", "zed")
        self.bad(4, "person ada", "", "", "half 5", "person ada", "person ada", "", "half 0")
        self.bad(3, "person ada", "", "person bob", "person ", "person cy", "work")

    def test_words_too_few(self):
        for row in RIGHT_ROWS:
            words = row.split(" ")
            for many in range(1, len(words)):
                if not (words[0] == "steps" and many in (6, 8)):
                    self.wrong_behind_head(" ".join(words[:many]))

    def test_words_too_many(self):
        for row in RIGHT_ROWS:
            for more in ("ada", "1", "0", "1/2", "half", "-", "ada 1"):
                self.wrong_behind_head(f"{row} {more}")
        self.wrong_behind_head("steps ode ada 1/9 1 1/9 2 1/9 3 1/9 4 1/9")
        self.wrong_behind_head("steps ode ada 1/9")

    def test_unknown_first_words(self):
        for row in RIGHT_ROWS:
            first, rest = row.split(" ", 1)
            for word in (first[:-1], first + "s", first.upper(), first.title(), "", "note", "#", "coin", "1"):
                if word != "":
                    self.wrong_behind_head(f"{word} {rest}")
                    self.wrong_behind_head(word)
            self.wrong_behind_head(rest)
        for row in ("flows ada 0", "due ada 0", "waits ode 0", "came 0", "statement 0", "strike ode 0", "endless ada",
                    "None", "-", "0", "; person cy"):
            self.wrong_behind_head(row)

    def test_blanks_where_none_stand(self):
        for row in RIGHT_ROWS:
            words = row.split(" ")
            for at in range(len(words) + 1):
                self.wrong_behind_head(" ".join(words[:at] + [""] + words[at:]))
        for row in (" ", "  ", "   "):
            self.wrong_behind_head(row)
            self.last_bad(row)

    def test_other_signs_between_words(self):
        for row in RIGHT_ROWS:
            for sign in ("\t", ",", "_", "", "/", "-"):
                if row.split(" ")[0] != "half" or sign:
                    self.wrong_behind_head(row.replace(" ", sign, 1))
            for sign in (".", ";", "\t", "\r"):
                self.wrong_behind_head(row + sign)
                self.wrong_behind_head(sign + row)

    def test_names(self):
        for row in ("person {}", "work {}", "rate {} 0 1/2"):
            for name in ("a", "z", "abcdefgh", "zzzzzzzz"):
                self.reads(*HEAD, row.format(name))
            for name in ("A", "Cy", "cY", "abcdefghi", "c1", "1", "c-d", "c_d", "c.d", "~", "`", "{", "@", "c/d", "-"):
                self.wrong_behind_head(row.format(name))

    def test_names_that_are_not_so_written_are_nobodys(self):
        for row in RIGHT_ROWS:
            for name in ("ada", "bob", "ode", "song"):
                if f" {name}" in row:
                    for other in (name.title(), name.upper(), name + "1", name * 3, name + "-", "1"):
                        self.wrong_behind_head(row.replace(f" {name}", f" {other}", 1))

    def numbers(self, row, least, most):
        """A row with a place for a number from least to most."""
        for number in (least, least + 1, most - 1, most):
            self.reads(*HEAD, row.format(number))
        for word in (least - 1, most + 1, most * 10, -1, 10 ** 30, "3" * 5000, f"0{least}", f"00{most}", f"+{most}",
                     f"-{most}", f"{most}.0", f"{most}/1", "1/2", "1e1", "0x1", "1_0", "", "one", "None"):
            self.wrong_behind_head(row.format(word))

    def test_days(self):
        for row in ("hand ada {} bob 1/2", "known ode {} bob", "rate usd {} 3", "sold {} ode 5 10 coin",
                    "advance {} ada 5", "wrong {} ada 5"):
            self.numbers(row, 0, 9999)
        self.reads(*HEAD, "back 9999 ode 1 20 coin")
        for day in ("10000", "09", "-1", "99999", "+11", ""):
            self.wrong_behind_head(f"back {day} ode 1 20 coin")

    def test_halves_lengths_counts_amounts_and_coins(self):
        self.numbers("half {}", 1, 400)
        self.numbers("length ode ada {}", 1, 1000)
        self.numbers("sold 3 ode {} 10 coin", 1, 10 ** 6)
        self.numbers("sold 3 ode 10 {} coin", 1, 10 ** 9)
        self.numbers("back 10 ode 1 {} coin", 1, 10 ** 9)
        self.numbers("advance 3 ada {}", 1, 10 ** 9)
        self.numbers("wrong 3 ada {}", 1, 10 ** 9)
        for count in ("0", "01", "10", "1000001", "-1"):
            self.wrong_behind_head(f"back 10 ode {count} 5 coin")

    def test_uptos(self):
        self.numbers("steps ode ada 1/9 {} 1/8", 1, 10 ** 6)
        for uptos in ((5, 5), (5, 4), (10 ** 6, 10 ** 6), (1, 0), (0, 1), (2, 3, 3), (2, 2, 3), (3, 2, 4), (2, 4, 3)):
            self.wrong_behind_head("steps ode ada 1/9" + "".join(f" {upto} 1/9" for upto in uptos))
        for uptos in ((1, 2), (999999, 10 ** 6), (1, 2, 3), (5, 50, 500)):
            self.reads(*HEAD, "steps ode ada 1/9" + "".join(f" {upto} 1/9" for upto in uptos))
        for rates in ("1/9 None", "1/9 1/9 5", "1/9 5 1/9 None", "5 1/9 1/9", "1/9 1/2 1/9", "1/9 5 5"):
            self.wrong_behind_head(f"steps ode ada {rates}")

    def test_parts(self):
        for row in ("of ode ada {}", "left ode ada {}", "steps ode ada {} 9 1/60", "steps ode ada 1/60 9 {}",
                    "steps ode ada 1/60 9 {} 10 1/60", "hand ada 3 bob {}", "keep ada {}"):
            for part in ("1", "1/2", "1/60", "59/60", "58/59", "1/59"):
                self.reads(*HEAD, row.format(part))
            for part in ("0", "0/1", "0/5", "2", "3/2", "61/60", "60/59", "1/61", "60/61", "1/120", "1/1", "2/2", "2/4",
                         "30/60", "60/60", "-1/2", "-1", "-0", "+1/2", "+1", "01", "1/02", "01/2", "1/", "/2", "/", "",
                         "1/2/3", "1/-2", "1/0", "0/0", "0.5", "1 /2", "1/ 2", "half", "1/2.", "1" * 1001,
                         "1/" + "9" * 1001, "1" * 5000, "1/" + "7" * 5000):
                self.wrong_behind_head(row.format(part))

    def test_worths(self):
        for worth in ("1", "1000", "1/1000", "999/1000", "1000/999", "999", "61", "1/61", "500/3"):
            self.reads(*HEAD, f"rate usd 3 {worth}")
        for worth in ("0", "0/1", "1001", "1/1001", "1001/1000", "1000/1001", "2/4", "1000/2", "1/1", "-1", "-1/2",
                      "-0", "+1", "01", "1/01", "1.5", "", "/", "1/", "/1", "1/0", "eur", "1" * 1001, "3/" + "1" * 5000):
            self.wrong_behind_head(f"rate usd 3 {worth}")


class TestRefusedByABook(ReadCase):
    def test_taken(self):
        for row in ("person ada", "person ode", "work ode", "work ada", "rate eur 10 3/2", "rate eur 10 5",
                    "rate coin 0 1", "rate coin 9999 3/2"):
            self.wrong_behind_head(row)
        self.last_bad(*HEAD, "hand ada 5 bob 1/2", "hand ada 5 bob 1/2")
        self.last_bad(*HEAD, "person cy", "hand ada 5 bob 1/2", "hand ada 5 cy 1/3")
        self.last_bad(*HEAD, "known ode 5 ada", "known ode 5 ada")
        self.last_bad(*HEAD, "known ode 5 ada", "known ode 6 bob")
        self.reads(*HEAD, "hand ada 5 bob 1/2", "hand bob 5 ada 1/2", "hand ada 6 bob 1/2", "known ode 5 ada",
                   "known song 5 ada", "rate eur 9 3/2", "rate ada 10 3")

    def test_no_name(self):
        for row in ("of {} ada 1/2", "of ode {} 1/2", "left {} ada 1/2", "left ode {} 1/2", "length {} ada 1",
                    "length ode {} 1", "steps {} ada 1/2 3 1/3", "steps ode {} 1/2 3 1/3", "hand {} 3 bob 1/2",
                    "hand bob 3 {} 1/2", "known {} 3 ada", "known ode 3 {}", "keep {} 1/2", "sold 3 {} 1 1 coin",
                    "back 30 {} 1 1 coin", "advance 3 {} 5", "wrong 3 {} 5"):
            self.wrong_behind_head(row.format("eve"))
        for row in ("of ada ada 1/2", "left bob ode 1/2", "length ada ode 1", "steps ada ada 1/2 3 1/3",
                    "hand ode 3 bob 1/2", "hand ada 3 ode 1/2", "hand ada 3 ada 1/2", "known ada 3 ada",
                    "known ode 3 song", "keep ode 1/2", "sold 3 ada 1 1 coin", "back 30 bob 1 1 coin",
                    "advance 3 ode 5", "wrong 3 song 5"):
            self.wrong_behind_head(row)

    def test_people_and_works_stand_ahead_of_what_names_them(self):
        for rows in (("work ode", "of ode ada 1/2", "person ada"), ("person ada", "of ode ada 1/2", "work ode"),
                     ("work ode", "length ode song 1", "work song"), ("person ada", "hand ada 1 bob 1/2", "person bob"),
                     ("person bob", "hand ada 1 bob 1/2", "person ada"), ("work ode", "known ode 1 ada", "person ada"),
                     ("person ada", "known ode 1 ada", "work ode")):
            self.bad(1, *rows)
            self.reads(rows[0], rows[2], rows[1])
        for rows in (("keep ada 1/2", "person ada"), ("sold 1 ode 1 1 coin", "work ode"),
                     ("wrong 1 ada 1", "person ada")):
            self.bad(0, *rows)
            self.reads(rows[1], rows[0])

    def test_too_much(self):
        self.last_bad(*HEAD, "of ode ada 1/2", "of ode bob 1/3", "of ode ada 1/5")
        self.reads(*HEAD, "of ode ada 1/2", "of ode bob 1/3", "of ode ada 1/6", "left ode ada 1", "length ode ada 1")
        self.last_bad(*HEAD, "of ode ada 1/2", "steps ode bob 1/3 5 2/3 6 1/4")
        self.last_bad(*HEAD, "steps ode bob 1/3 5 2/3 6 1/4", "of ode ada 1/2")
        self.last_bad(*HEAD, "of ode ada 1", "of ode ada 1/60")
        self.reads(*HEAD, "of ode ada 1", "of song ada 1", "left song ada 1")

    def test_no_rate(self):
        for row in ("sold 9 ode 1 1 eur", "back 9 ode 1 1 eur", "sold 10 ode 1 1 usd", "sold 0 ode 1 1 ode",
                    "back 10 ode 1 1 usd"):
            self.wrong_behind_head(row)
        self.bad(1, "work ode", "sold 5 ode 1 1 usd", "rate usd 0 1")
        self.bad(2, "work ode", "rate usd 6 1", "sold 5 ode 1 1 usd", "rate usd 0 1")
        self.reads("work ode", "rate usd 5 1", "sold 5 ode 1 1 usd", "rate usd 0 1")

    def test_none_left(self):
        for row in ("back 10 ode 10 1 coin", "back 9 ode 1 1 coin", "back 9999 ode 10 1 coin",
                    "back 11 song 1 1 coin"):
            self.wrong_behind_head(row)
        self.last_bad(*HEAD, "back 10 ode 5 1 coin", "back 11 ode 5 1 coin")
        self.last_bad(*HEAD, "back 12 ode 5 1 coin", "back 11 ode 5 1 coin")
        self.last_bad("work ode", "back 5 ode 1 1 coin")
        self.bad(1, "work ode", "back 5 ode 1 1 coin", "sold 5 ode 1 1 coin")
        self.bad(2, "work ode", "sold 5 ode 1 1 coin", "back 4 ode 1 1 coin", "sold 3 ode 1 1 coin")
        self.reads(*HEAD, "back 12 ode 5 1 coin", "back 11 ode 4 1 coin", "sold 12 ode 1 1 coin",
                   "back 12 ode 1 1 coin")
        self.reads("work ode", "sold 5 ode 1 1 coin", "sold 3 ode 1 1 coin", "back 4 ode 1 1 coin")


class TestBounds(ReadCase):
    def full(self, many, head, row):
        """So many rows are read, and one more is refused."""
        rows = [row(at) for at in range(many)]
        self.reads(*head, *rows)
        self.last_bad(*head, *rows, row(many))

    def test_people_and_works(self):
        for kind, other in (("person", "work"), ("work", "person")):
            self.full(12, (), lambda at: f"{kind} {LETTERS[at]}")
            self.full(12, [f"{other} x{LETTERS[at]}" for at in range(12)], lambda at: f"{kind} {LETTERS[at]}")

    def test_rows_of_a_work(self):
        head = ("person ada", "work ode", "work song")
        self.full(8, head, lambda at: "of ode ada 1/60")
        self.full(8, head, lambda at: "length ode ada 1")
        self.full(8, head, lambda at: "steps ode ada 1/60 5 1/50")
        self.full(8, [*head, *["length song ada 1"] * 8], lambda at: "length ode ada 1")
        for row in ("of ode ada 1/60", "left ode ada 1/60", "length ode ada 1", "steps ode ada 1/60 5 1/50"):
            self.last_bad(*head, "left ode ada 1/2", *["length ode song 1"] * 6, "of ode ada 1/2", row)

    def test_lefts_of_a_work(self):
        head = ("person ada", "work ode", "work song")
        self.full(3, head, lambda at: "left ode ada 1/2")
        self.full(3, [*head, *["left song ada 1/2"] * 3, "of ode ada 1/2"], lambda at: "left ode ada 1/2")

    def test_hands(self):
        head = [f"person {LETTERS[at]}" for at in range(12)]
        self.full(30, head, lambda at: f"hand a {at} b 1/2")
        self.full(30, head, lambda at: f"hand {LETTERS[at % 12]} {at // 12} {LETTERS[(at + 1) % 12]} 1/2")

    def test_money(self):
        self.full(40, ["work ode"], lambda at: f"sold {at} ode 1 1 coin")
        self.full(40, ["work ode", "work song"], lambda at: f"{('sold', 'back')[at % 2]} 5 ode 1 1 coin")
        self.full(20, ["work ode", "work song", *["sold 1 ode 1 1 coin"] * 20], lambda at: "sold 1 song 1 1 coin")
        self.last_bad("work ode", *["sold 1 ode 9 1 coin"] * 40, "back 1 ode 1 1 coin")

    def test_debts(self):
        for kind in ("wrong", "advance"):
            self.full(20, ["person ada"], lambda at: f"{kind} {at} ada 1")
        self.full(20, ["person ada", "person bob"], lambda at: f"{('wrong', 'advance')[at % 2]} 5 ada 1")
        self.full(10, ["person ada", "person bob", *["advance 1 bob 1"] * 10], lambda at: "wrong 1 ada 1")

    def test_rates(self):
        self.full(20, (), lambda at: f"rate eur {at} 1")
        self.full(20, (), lambda at: f"rate {LETTERS[at]} 5 1/3")

    def test_a_second_half(self):
        for first, second in ((182, 182), (182, 10), (10, 10), (10, 182), (1, 400)):
            self.last_bad(f"half {first}", f"half {second}")
            self.last_bad(f"half {first}", "", "person ada", f"half {second}")
        self.assertEqual(self.reads("person ada", "", "half 10", "").half_days(), 10)

    def test_a_second_keep_of_one(self):
        for first, second in (("1/2", "1/2"), ("1/2", "1/3"), ("1", "1")):
            self.last_bad(*HEAD, f"keep ada {first}", f"keep ada {second}")
            self.last_bad(*HEAD, f"keep ada {first}", f"keep bob {second}", f"keep ada {second}")
        self.assertEqual(self.reads(*HEAD, "keep bob 1/2", "keep ada 1/2").keep_of("ada"), (1, 2))


class TestAll(ReadCase):
    def test_texts_with_faults_against_a_plain_reading(self):
        draw, told = random.Random(115), {int: 0, tuple: 0}
        for turn in range(600):
            rows = drawn_order(draw, book_text(drawn_book(draw)).split("\n"))
            for fault in range(draw.randint(0, 3)):
                rows = drawn_fault(draw, rows)
            wanted = wanted_reading("\n".join(rows))
            told[type(wanted)] += 1
            if isinstance(wanted, int):
                self.bad(wanted, *rows)
            else:
                self.assertEqual(told_of(self.reads(*rows)), wanted[0])
        self.assertGreater(min(told.values()), 100)


if __name__ == "__main__":
    unittest.main()
