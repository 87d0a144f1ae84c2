"""The document's promises reckoned once more, plainly, with Python's own fractions; and books drawn by chance."""

import unittest
from fractions import Fraction

from royaltree.books import Book
from royaltree.errors import NoneLeft, NoRate, RoyalError, Taken
from royaltree.parting import too_much


def pair(one):
    return (one.numerator, one.denominator)


def wanted_shares(rows, unit):
    """Promise 4: parts by name, also those of 0, and what waits, as Fractions."""
    parts = {name: Fraction(0) for kind, name, told in rows}
    rest = Fraction(1)
    for kind, name, told in rows:
        if kind == "steps":
            told = next(part for upto, part in told if upto is None or unit < upto)
        if kind in ("of", "steps"):
            parts[name] += Fraction(*told)
            rest -= Fraction(*told)
    for kind, name, told in rows:
        if kind == "left":
            parts[name] += rest * Fraction(*told)
            rest *= 1 - Fraction(*told)
    together = sum(told for kind, name, told in rows if kind == "length")
    for kind, name, told in rows:
        if kind == "length":
            parts[name] += rest * Fraction(told, together)
    return parts, Fraction(0) if together else rest


def wanted_parts(rows, unit):
    """Promise 5: what parts_at and waits_at tell."""
    parts, waits = wanted_shares(rows, unit)
    return [(name, pair(parts[name])) for name in sorted(parts) if parts[name] != 0], pair(waits)


def wanted_leads(book, name, day, counts):
    """Promise 9: where a coin goes on to, as a dict of Fractions above 0."""
    if name in book.person_names():
        leads, left = {}, Fraction(1)
        for hand_day, other, part in sorted(book.hands_of(name)):
            if hand_day <= day:
                leads[other] = leads.get(other, 0) + left * Fraction(*part)
                left -= left * Fraction(*part)
    else:
        leads, waits = wanted_shares(book.rows_of(name), counts.get(name, 0))
        known = book.known_of(name)
        if known and known[0] <= day:
            leads[known[1]] = leads.get(known[1], 0) + waits
    return {other: part for other, part in leads.items() if part}


def names_on_ways(leads, name):
    """Every name to which a way leads."""
    found, rest = {name}, [name]
    while rest:
        for other in leads[rest.pop()]:
            if other not in found:
                found.add(other)
                rest.append(other)
    return found


def solved_by_pivots(matrix, right):
    """Plain elimination over Fractions, searching a pivot that is not 0."""
    size = len(matrix)
    rows = [list(row) + [end] for row, end in zip(matrix, right)]
    for at in range(size):
        best = next(k for k in range(at, size) if rows[k][at] != 0)
        rows[at], rows[best] = rows[best], rows[at]
        rows[at] = [number / rows[at][at] for number in rows[at]]
        for k in range(size):
            if k != at:
                rows[k] = [one - rows[k][at] * other for one, other in zip(rows[k], rows[at])]
    return [row[-1] for row in rows]


def wanted_flows(book, name, day, counts):
    """Promise 10: (flows, shares) as dicts of Fractions, and None; or None, None and the endless names."""
    all_leads = {one: wanted_leads(book, one, day, counts) for one in book.person_names() + book.work_names()}
    names = sorted(names_on_ways(all_leads, name))
    stays = {one: 1 - sum(all_leads[one].values()) for one in names}
    endless = tuple(one for one in names if not any(stays[other] for other in names_on_ways(all_leads, one)))
    if endless:
        return None, None, endless
    matrix = [[(one == other) - all_leads[other].get(one, Fraction(0)) for other in names] for one in names]
    flows = dict(zip(names, solved_by_pivots(matrix, [Fraction(one == name) for one in names])))
    return flows, {one: flows[one] * stays[one] for one in names if flows[one] * stays[one]}, None


class WantedEndless(Exception):
    def __init__(self, names):
        self.names = names


def counts_ahead(book, number):
    counts = {work: 0 for work in book.work_names()}
    for kind, day, work, count, amount, currency in book.money_list()[:number]:
        counts[work] += count if kind == "sold" else -count
    return counts


def wanted_credits(book, number):
    """Promise 11, unit by unit: what each name has more, as Fractions."""
    kind, day, work, count, amount, currency = book.money_list()[number]
    counts = counts_ahead(book, number)
    first = counts[work] if kind == "sold" else counts[work] - count
    coins = Fraction(*book.worth_of(currency, day)) * amount * (1 if kind == "sold" else -1)
    got, parted = {}, {}
    for unit in range(first, first + count):
        # Units between the same uptos part alike; to try each anew would only take longer.
        rates = tuple(sum(upto is not None and upto <= unit for upto, part in told)
                      for row_kind, name, told in book.rows_of(work) if row_kind == "steps")
        if rates not in parted:
            flows, shares, endless = wanted_flows(book, work, day, {**counts, work: unit})
            if endless:
                raise WantedEndless(endless)
            parted[rates] = shares
        for name, share in parted[rates].items():
            got[name] = got.get(name, 0) + coins / count * share
    return got


class WantedLedger:
    """Promises 12 and 13, day by day and half by half, none passed over."""

    def __init__(self, book, last_day):
        self.keep = {person: Fraction(*book.keep_of(person)) for person in book.person_names()}
        self.open = {person: Fraction(0) for person in self.keep}
        self.kept = {person: {} for person in self.keep}
        self.debt = {person: {"wrong": 0, "advance": 0} for person in self.keep}
        self.worked = {person: 0 for person in self.keep}
        self.paid = {person: 0 for person in self.keep}
        self.earned = {person: Fraction(0) for person in self.keep}
        self.freed = {person: Fraction(0) for person in self.keep}
        self.waits = {work: Fraction(0) for work in book.work_names()}
        self.came = Fraction(0)
        for day in range(last_day + 1):
            self.half = day // book.half_days()
            self.go_through(book, day)
            if (day + 1) // book.half_days() > self.half:
                for person in self.keep:
                    self.end_half(person)

    def go_through(self, book, day):
        for work in book.work_names():
            if (book.known_of(work) or (None,))[0] == day and self.waits[work]:
                coins, self.waits[work] = self.waits[work], Fraction(0)
                flows, shares, endless = wanted_flows(book, book.known_of(work)[1], day, {})
                if endless:
                    raise WantedEndless(endless)
                for name, share in shares.items():
                    self.come(name, coins * share)
        for kind, debt_day, person, coins in book.debt_list():
            if debt_day == day:
                self.debt[person][kind] += coins
        for number, (kind, money_day, work, count, amount, currency) in enumerate(book.money_list()):
            if money_day == day:
                coins = amount * Fraction(*book.worth_of(currency, day))
                self.came += coins if kind == "sold" else -coins
                for name, credit in wanted_credits(book, number).items():
                    self.come(name, credit)

    def come(self, name, coins):
        if name in self.earned:
            self.earned[name] += coins
        if name in self.waits:
            self.waits[name] += coins
        elif coins > 0:
            kept = self.kept[name]
            kept[self.half] = kept.get(self.half, 0) + coins * self.keep[name]
            self.open[name] += coins - coins * self.keep[name]
        else:
            for half in sorted(self.kept[name]):
                taken = min(-coins, self.kept[name][half])
                self.kept[name][half] -= taken
                coins += taken
            self.open[name] += coins

    def end_half(self, person):
        for half in list(self.kept[person]):
            if half < self.half:
                self.freed[person] += self.kept[person][half]
                self.open[person] += self.kept[person].pop(half)
        if self.open[person] >= 1:
            coins = self.open[person].numerator // self.open[person].denominator
            self.open[person] -= coins
            for kind in ("wrong", "advance"):
                while coins and self.debt[person][kind]:
                    step = min(coins, self.debt[person][kind])
                    coins -= step
                    self.debt[person][kind] -= step
                    self.worked[person] += step
            self.paid[person] += coins

    def told(self):
        """All that a Ledger tells, by its methods' names."""
        kept = {person: sum(self.kept[person].values(), Fraction(0)) for person in self.keep}
        return {
            "open_of": {person: pair(self.open[person]) for person in self.keep},
            "kept_of": {person: pair(kept[person]) for person in self.keep},
            "debt_of": {person: (self.debt[person]["wrong"], self.debt[person]["advance"]) for person in self.keep},
            "worked_of": self.worked,
            "paid_of": self.paid,
            "due_of": {person: pair(self.open[person] + kept[person] + self.worked[person] + self.paid[person])
                       for person in self.keep},
            "waits_of": {work: pair(coins) for work, coins in self.waits.items()},
            "came_in": pair(self.came),
        }


def wanted_statements(book, half):
    """Promise 14: what all days up to the half's end came to, less what they came to ahead of it."""
    ahead, behind = (WantedLedger(book, end * book.half_days() - 1) for end in (half, half + 1))
    return [(person, pair(behind.earned[person] - ahead.earned[person]),
             pair(behind.freed[person] - ahead.freed[person]), behind.worked[person] - ahead.worked[person],
             behind.paid[person] - ahead.paid[person], behind.told()["open_of"][person],
             behind.told()["kept_of"][person], behind.debt[person]["wrong"], behind.debt[person]["advance"])
            for person in sorted(behind.keep)]


def told_by(ledger, people, works):
    """All that a Ledger tells, in the form of WantedLedger.told."""
    asks = {name: {person: getattr(ledger, name)(person) for person in people}
            for name in ("open_of", "kept_of", "debt_of", "worked_of", "paid_of", "due_of")}
    return {**asks, "waits_of": {work: ledger.waits_of(work) for work in works}, "came_in": ledger.came_in()}


def told_of(book):
    """All that a Book tells, as one thing to be compared."""
    people, works = book.person_names(), book.work_names()
    return {
        "people": people, "works": works, "half": book.half_days(), "rates": book.rate_list(),
        "money": book.money_list(), "debts": book.debt_list(),
        "rows": [book.rows_of(work) for work in works], "known": [book.known_of(work) for work in works],
        "hands": [book.hands_of(person) for person in people], "keeps": [book.keep_of(person) for person in people],
    }


class BookCase(unittest.TestCase):
    """Tests of a Book's deeds and asks, with how a refusal is to be."""

    def refused(self, error, book, deed, *told):
        """The deed or ask is refused with just this class, and all stands as before."""
        with self.subTest(deed=deed, told=told):
            before = told_of(book)
            with self.assertRaises(RoyalError) as caught:
                getattr(book, deed)(*told)
            self.assertIs(type(caught.exception), error)
            self.assertEqual(told_of(book), before)


def book_with(people, works=""):
    """A Book with these people and works, each named in a text."""
    book = Book()
    for name in people.split():
        book.add_person(name)
    for name in works.split():
        book.add_work(name)
    return book


def drawn_part(draw, most=60):
    below = draw.randint(1, most)
    return pair(Fraction(draw.randint(1, below), below))


def drawn_rates(draw):
    uptos = sorted(draw.sample(range(1, 40), draw.randint(1, 3)))
    return tuple((upto, pair(Fraction(1, draw.randint(3, 60)))) for upto in uptos + [None])


def drawn_rows(draw, names=("ada", "bob", "cy", "a", "zed"), most=8):
    """Some rows, mostly not too much, of few names so that some come several times."""
    rows = []
    for turn in range(draw.randint(0, most)):
        name = draw.choice(names)
        kind = draw.choice(("of", "steps", "left", "length"))
        if kind == "left" and sum(row[0] == "left" for row in rows) == 3:
            kind = "length"
        told = {"of": pair(Fraction(draw.randint(1, 5), draw.randint(5, 60))), "steps": drawn_rates(draw),
                "left": drawn_part(draw), "length": draw.randint(1, 1000)}[kind]
        rows.append((kind, name, told))
    return tuple(rows)


PEOPLE = ("ada", "bob", "cy", "dan")
WORKS = ("ode", "song", "tune")
CURRENCIES = ("coin", "eur", "yen")


def drawn_book(draw, most_days=40, whole_parts=0.1):
    """A Book with some of everything, in which rings are likely and endless ones happen."""
    book = book_with(" ".join(PEOPLE), " ".join(WORKS))
    book.put_half(draw.randint(1, 15))
    for work in WORKS:
        rows = drawn_rows(draw, PEOPLE + WORKS * 2, 5)
        if draw.random() < whole_parts:
            rows = (("left", draw.choice(PEOPLE + WORKS), (1, 1)),)
        if not too_much(rows):
            book.put_rows(work, rows)
        if draw.random() < 0.5:
            book.make_known(work, draw.randint(0, most_days), draw.choice(PEOPLE))
    deeds = [deed for deed, many in ((draw_hand, 5), (draw_rate, 4), (draw_keep, 3), (draw_money, 12), (draw_debt, 4))
             for turn in range(many)]
    draw.shuffle(deeds)
    for deed in deeds:
        try:
            deed(draw, book, draw.randint(0, most_days), whole_parts)
        except (Taken, NoRate, NoneLeft):
            pass
    return book


def draw_hand(draw, book, day, whole_parts):
    person, other = draw.sample(PEOPLE, 2)
    book.hand_on(person, day, other, (1, 1) if draw.random() < whole_parts else drawn_part(draw, 12))


def draw_rate(draw, book, day, whole_parts):
    book.put_rate(draw.choice(CURRENCIES), day // 2, pair(Fraction(draw.randint(1, 1000), draw.randint(1, 1000))))


def draw_keep(draw, book, day, whole_parts):
    below = draw.randint(1, 60)
    book.put_keep(draw.choice(PEOPLE), pair(Fraction(draw.randint(0, below), below)))


def draw_money(draw, book, day, whole_parts):
    put = book.put_sold if draw.random() < 0.6 else book.put_back
    put(day, draw.choice(WORKS), draw.randint(1, 30), draw.randint(1, 200), draw.choice(CURRENCIES))


def draw_debt(draw, book, day, whole_parts):
    book.put_debt(draw.choice(("advance", "wrong")), day, draw.choice(PEOPLE), draw.randint(1, 90))


def drawn_ending_book(draw, most_days=40):
    """A drawn Book of which no row of money, and no maker, is endless."""
    while True:
        book = drawn_book(draw, most_days, whole_parts=0)
        try:
            WantedLedger(book, most_days)
        except WantedEndless:
            continue
        return book
