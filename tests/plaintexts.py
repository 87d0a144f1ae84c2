"""Promises 16 to 18 once more, by patterns of rows and plain lists; and texts drawn by chance."""

import re
from fractions import Fraction
from math import gcd

from reckoning import WantedEndless, WantedLedger, book_with, wanted_flows, wanted_statements

NAME, NUMBER, FRACTION = "([a-z]{1,8})", "(0|[1-9][0-9]*)", "([1-9][0-9]*(?:/[1-9][0-9]*)?)"
PATTERNS = {kind: re.compile(" ".join([kind] + words)) for kind, words in {
    "half": [NUMBER],
    "person": [NAME],
    "work": [NAME],
    "of": [NAME, NAME, FRACTION],
    "left": [NAME, NAME, FRACTION],
    "length": [NAME, NAME, NUMBER],
    "hand": [NAME, NUMBER, NAME, FRACTION],
    "known": [NAME, NUMBER, NAME],
    "rate": [NAME, NUMBER, FRACTION],
    "keep": [NAME, FRACTION],
    "sold": [NUMBER, NAME, NUMBER, NUMBER, NAME],
    "back": [NUMBER, NAME, NUMBER, NUMBER, NAME],
    "advance": [NUMBER, NAME, NUMBER],
    "wrong": [NUMBER, NAME, NUMBER],
    "flows": [NAME, NUMBER],
    "due": [NAME, NUMBER],
    "waits": [NAME, NUMBER],
    "came": [NUMBER],
    "statement": [NUMBER],
    "strike": [NAME, NUMBER],
}.items()}
STEPS = re.compile(f"steps {NAME} {NAME} {FRACTION}((?: {NUMBER} {FRACTION}){{1,3}})")
WORK_ROWS = ("of", "steps", "left", "length")
ASKS = ("flows", "due", "waits", "came", "statement", "strike")


class Wrong(Exception):
    pass


def need(truth):
    if not truth:
        raise Wrong


def number(word, least, most):
    need(least <= int(word) <= most)
    return int(word)


def day(word):
    return number(word, 0, 9999)


def fraction(word, most):
    top, below = (word.split("/") + ["1"])[:2]
    told = (int(top), int(below))
    need(gcd(*told) == 1 and ("/" in word) == (told[1] > 1) and max(told) <= most)
    return told


def part(word):
    told = fraction(word, 60)
    need(told[0] <= told[1])
    return told


class PlainBook:
    """What rows of text told so far."""

    def __init__(self):
        self.half = None
        self.people, self.works, self.money, self.debts = [], {}, [], []
        self.hands, self.known, self.rates, self.keeps = {}, {}, {}, {}

    def take(self, row):
        """The row's kind and words; Wrong where the row is wrong behind those ahead."""
        kind = row.split(" ")[0]
        match = STEPS.fullmatch(row) if kind == "steps" else PATTERNS[kind].fullmatch(row) if kind in PATTERNS else None
        need(match)
        words = row.split(" ")[1:]
        if kind in WORK_ROWS:
            self.take_work_row(kind, *words[:2], words[2:])
        else:
            getattr(self, "take_" + kind)(*words)
        return kind, words

    def take_half(self, days):
        need(self.half is None)
        self.half = number(days, 1, 400)

    def take_person(self, name):
        need(name not in self.people and name not in self.works and len(self.people) < 12)
        self.people.append(name)

    def take_work(self, name):
        need(name not in self.people and name not in self.works and len(self.works) < 12)
        self.works[name] = []

    def take_work_row(self, kind, work, name, words):
        need(work in self.works and (name in self.people or name in self.works))
        if kind == "length":
            told = number(words[0], 1, 1000)
        elif kind == "steps":
            uptos = [number(word, 1, 10 ** 6) for word in words[1::2]]
            need(uptos == sorted(set(uptos)))
            told = tuple(zip(uptos + [None], [part(word) for word in words[::2]]))
        else:
            told = part(words[0])
        rows = self.works[work] + [(kind, name, told)]
        need(len(rows) <= 8 and sum(row[0] == "left" for row in rows) <= 3)
        need(sum(Fraction(*row[2]) for row in rows if row[0] == "of")
             + sum(max(Fraction(*rate) for upto, rate in row[2]) for row in rows if row[0] == "steps") <= 1)
        self.works[work] = rows

    def take_hand(self, person, from_day, name, handed):
        need(person in self.people and name in self.people and person != name)
        need((person, day(from_day)) not in self.hands and len(self.hands) < 30)
        self.hands[person, int(from_day)] = (name, part(handed))

    def take_known(self, work, from_day, person):
        need(work in self.works and person in self.people and work not in self.known)
        self.known[work] = (day(from_day), person)

    def take_rate(self, currency, from_day, worth):
        need(currency != "coin" and (currency, day(from_day)) not in self.rates and len(self.rates) < 20)
        self.rates[currency, int(from_day)] = fraction(worth, 1000)

    def take_keep(self, person, kept):
        need(person in self.people and person not in self.keeps)
        self.keeps[person] = part(kept)

    def take_money(self, kind, on_day, work, count, amount, currency):
        row = (kind, day(on_day), work, number(count, 1, 10 ** 6), number(amount, 1, 10 ** 9), currency)
        need(work in self.works and len(self.money) < 40)
        need(currency == "coin" or any(told == currency and told_day <= row[1] for told, told_day in self.rates))
        money, left = self.money + [row], 0
        for told_kind, told_day, told_work, told_count, *rest in sorted(money, key=lambda one: one[1]):
            if told_work == work:
                left += told_count if told_kind == "sold" else -told_count
                need(left >= 0)
        self.money = money

    def take_sold(self, *words):
        self.take_money("sold", *words)

    def take_back(self, *words):
        self.take_money("back", *words)

    def take_debt(self, kind, on_day, person, coins):
        need(person in self.people and len(self.debts) < 20)
        self.debts.append((kind, day(on_day), person, number(coins, 1, 10 ** 9)))

    def take_advance(self, *words):
        self.take_debt("advance", *words)

    def take_wrong(self, *words):
        self.take_debt("wrong", *words)

    def take_flows(self, name, on_day):
        need((name in self.people or name in self.works) and day(on_day) >= 0)

    def take_due(self, name, on_day):
        need(name in self.people and day(on_day) >= 0)

    def take_waits(self, name, on_day):
        need(name in self.works and day(on_day) >= 0)

    def take_strike(self, name, on_day):
        need(name in self.works and day(on_day) >= 0)

    def take_came(self, on_day):
        day(on_day)

    def take_statement(self, half):
        number(half, 0, 9999)

    def told(self):
        """What a Book of this tells, as told_of has it."""
        people, works = sorted(self.people), sorted(self.works)
        return {
            "people": people, "works": works, "half": self.half or 182,
            "rates": sorted(key + (worth,) for key, worth in self.rates.items()),
            "money": sorted(self.money, key=lambda row: row[1]), "debts": sorted(self.debts, key=lambda row: row[1]),
            "rows": [tuple(self.works[work]) for work in works], "known": [self.known.get(work) for work in works],
            "hands": [sorted((day, *hand) for (giver, day), hand in self.hands.items() if giver == person)
                      for person in people],
            "keeps": [self.keeps.get(person, (0, 1)) for person in people],
        }

    def book(self, without=None):
        """A Book that was told all this by deeds; but nothing of one work, where one is named."""
        works = {work: tuple(row for row in rows if row[1] != without)
                 for work, rows in self.works.items() if work != without}
        book = book_with(" ".join(self.people), " ".join(works))
        book.put_half(self.half or 182)
        for (person, from_day), (name, handed) in self.hands.items():
            book.hand_on(person, from_day, name, handed)
        for (currency, from_day), worth in self.rates.items():
            book.put_rate(currency, from_day, worth)
        for person, kept in self.keeps.items():
            book.put_keep(person, kept)
        for work, rows in works.items():
            book.put_rows(work, rows)
            if work in self.known:
                book.make_known(work, *self.known[work])
        for kind, *row in self.money:
            if row[1] != without:
                (book.put_sold if kind == "sold" else book.put_back)(*row)
        for debt in self.debts:
            book.put_debt(*debt)
        return book


def wanted_reading(text, asks=False):
    """What the rows of a text tell, and the asks in it with their answers; or the number of the first wrong row."""
    plain, waiting = PlainBook(), []
    for at, row in enumerate(text.split("\n")):
        if row == "":
            continue
        try:
            need(asks or row.split(" ")[0] not in ASKS)
            kind, words = plain.take(row)
        except Wrong:
            return at
        if kind in ASKS:
            books = plain.book(), plain.book(words[0]) if kind == "strike" else None
            waiting.append((kind, words, books))
    return plain.told(), [wanted_answer(*ask) for ask in waiting]


def floor(one):
    return str(Fraction(*one).__floor__())


def wanted_answer(kind, words, books):
    try:
        return answer_of(kind, words, *books) or "-"
    except WantedEndless as refusal:
        return "endless " + " ".join(refusal.names)


def answer_of(kind, words, book, without):
    if kind == "flows":
        flows, shares, endless = wanted_flows(book, words[0], int(words[1]), {})
        if endless:
            raise WantedEndless(endless)
        return " ; ".join(f"{name} {shares[name]}" for name in sorted(shares))
    if kind == "statement":
        return " ; ".join(f"{row[0]} {row[3]} {row[4]}" for row in wanted_statements(book, int(words[0])))
    told = WantedLedger(book, int(words[-1])).told()
    if kind == "due":
        numbers = [told[ask][words[0]] for ask in ("worked_of", "paid_of")] + list(told["debt_of"][words[0]])
        return " ".join([floor(told[ask][words[0]]) for ask in ("open_of", "kept_of")] + [str(one) for one in numbers])
    if kind == "waits":
        return floor(told["waits_of"][words[0]])
    if kind == "came":
        return floor(told["came_in"])
    other = WantedLedger(without, int(words[-1])).told()
    given, others = {**told["due_of"], **told["waits_of"]}, {**other["due_of"], **other["waits_of"]}
    return " ".join(name for name in sorted(others) if given[name] != others[name])


def wanted_text(book):
    """Promise 16: a book's text, written row by row."""
    rows = [f"half {book.half_days()}"]
    rows += [f"person {name}" for name in book.person_names()] + [f"work {name}" for name in book.work_names()]
    for work in book.work_names():
        for kind, name, told in book.rows_of(work):
            if kind == "steps":
                told = " ".join(f"{Fraction(*rate)} {upto}" for upto, rate in told).removesuffix(" None")
            elif kind != "length":
                told = Fraction(*told)
            rows.append(f"{kind} {work} {name} {told}")
    for person in book.person_names():
        rows += [f"hand {person} {day} {name} {Fraction(*handed)}" for day, name, handed in book.hands_of(person)]
    rows += ["known {} {} {}".format(work, *book.known_of(work)) for work in book.work_names() if book.known_of(work)]
    rows += [f"rate {currency} {day} {Fraction(*worth)}" for currency, day, worth in book.rate_list()]
    keeps = [(name, Fraction(*book.keep_of(name))) for name in book.person_names()]
    rows += [f"keep {name} {kept}" for name, kept in keeps if kept]
    rows += [" ".join(str(word) for word in row) for row in book.money_list() + book.debt_list()]
    return "\n".join(rows)


def drawn_order(draw, rows):
    """Rows of a text, each once, in some order in which each is right behind those ahead; a work's in their own."""
    plain, order, rest = PlainBook(), [], list(rows)
    while rest:
        row = draw.choice(rest)
        if row.split(" ")[0] in WORK_ROWS:
            row = next(one for one in rest if one.split(" ")[0] in WORK_ROWS and one.split(" ")[1] == row.split(" ")[1])
        try:
            plain.take(row)
        except Wrong:
            continue
        rest.remove(row)
        order.append(row)
    return order


ODD_WORDS = ("", "0", "1", "00", "01", "-1", "+1", "1.5", "1/2", "2/4", "0/1", "3/1", "1/60", "1/61", "61/60", "60/59",
             "1000", "1001", "1/1000", "1/1001", "400", "401", "9999", "10000", "1000000", "1000001", "1000000000",
             "1000000001", "99999999999999999999", "ada", "bob", "ode", "song", "eve", "Ada", "abcdefgh", "abcdefghi",
             "coin", "eur", "half", "person", "steps", "None", "a1", "-", "~", "1_000", "/", "1/", "/2", "1/0", "1/-2")
ODD_ROWS = (" ", "  ", "half", "half 182", "half 10", "person", "person ada", "work ada", "person eve", "work ode",
            "nothing", "person  ada", "keep ada 1/2", "rate coin 0 1", "rate usd 0 1/3", "sold 0 ode 1 1 usd",
            "back 0 ode 1 1 coin", "back 9999 song 1 1 coin", "of ode ada 1", "left ode ada 1/2", "length ode bob 3",
            "steps ode ada 1/60 5 1/60", "due ada 5", "wrong 3 ada 7", "known ode 3 ada", "hand ada 3 bob 1/2")


def drawn_fault(draw, rows):
    """The rows with one of them, maybe, made wrong, or an odd one between."""
    rows = list(rows)
    at = draw.randrange(len(rows))
    words = rows[at].split(" ")
    place = draw.randrange(len(words))
    kind = draw.choice(("word", "word", "word", "less", "more", "blank", "odd", "twice", "earlier", "empty"))
    if kind == "word":
        words[place] = draw.choice(ODD_WORDS)
    elif kind == "less":
        del words[place]
    elif kind == "more":
        words.insert(place + draw.randint(0, 1), draw.choice(ODD_WORDS))
    elif kind == "blank":
        words.insert(place + draw.randint(0, 1), "")
    rows[at] = " ".join(words)
    if kind in ("odd", "empty"):
        rows.insert(at, draw.choice(ODD_ROWS) if kind == "odd" else "")
    elif kind == "twice":
        rows.insert(draw.randrange(len(rows)), rows[at])
    elif kind == "earlier":
        rows.insert(draw.randint(0, at), rows.pop(at))
    return rows
