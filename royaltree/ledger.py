"""The ledger: going through the days of a book, and whose each coin is behind one of them."""

from royaltree.books import units_more
from royaltree.errors import NoName
from royaltree.flows import share_list
from royaltree.fractions import NOTHING, fraction_of, is_less, product_of, sum_of, taken_from, whole_of
from royaltree.parting import gathered, unit_stretches

# Wrong payments are worked off ahead of advances.
DEBT_KINDS = ("wrong", "advance")


def coins_of(book, row):
    """What a row of money is worth in coins; below 0 where units were brought back."""
    kind, day, work, count, amount, currency = row
    return product_of((amount if kind == "sold" else -amount, 1), book.worth_of(currency, day))


def counts_behind(rows):
    """How many units of each work rows of money leave sold, as a dict."""
    counts = {}
    for row in rows:
        counts[row[2]] = counts.get(row[2], 0) + units_more(row)
    return counts


def credit_list(book, number):
    """What people have more, and what waits more at works, by one row of money_list."""
    money = book.money_list()
    kind, day, work, count, amount, currency = money[number]
    coins = coins_of(book, money[number])
    counts = counts_behind(money[:number])
    sold = counts.get(work, 0)
    first = sold if kind == "sold" else sold - count
    parted = []
    for start, many in unit_stretches(book.rows_of(work), first, count):
        counts[work] = start
        stretch_coins = product_of(coins, fraction_of(many, count))
        parted.extend(parted_by(share_list(book, work, day, counts), stretch_coins))
    return gathered(parted)


def parted_by(shares, coins):
    """Coins parted by shares, as pairs (name, coins)."""
    return [(name, product_of(coins, share)) for name, share in shares]


def busy_days(book, day):
    """The days up to this one on which a maker becomes known, a debt is made or money moves, rising."""
    makers = [book.known_of(work) for work in book.work_names()]
    days = [known[0] for known in makers if known is not None]
    days += [row[1] for row in book.debt_list() + book.money_list()]
    return sorted({busy_day for busy_day in days if busy_day <= day})


class Purse:
    """What one person has, and what they still have to work off."""

    def __init__(self, keep):
        self.keep = keep
        self.ready = NOTHING
        # What is kept stands by the half in which it came.
        self.kept = {}
        self.owed = {kind: 0 for kind in DEBT_KINDS}
        # By halves, too, stands what statements tell; halves in which nothing was done are not there.
        self.earned = {}
        self.freed = {}
        self.worked = {}
        self.paid = {}

    def take_in(self, half, coins):
        """Coins come to the person in this half; below 0, they go."""
        self.earned[half] = sum_of([self.earned.get(half, NOTHING), coins])
        if is_less(coins, NOTHING):
            self.give_back(taken_from(coins, NOTHING))
        else:
            held = product_of(coins, self.keep)
            self.kept[half] = sum_of([self.kept.get(half, NOTHING), held])
            self.ready = sum_of([self.ready, taken_from(held, coins)])

    def owe(self, kind, coins):
        """The person has so many coins more to work off."""
        self.owed[kind] += coins

    def give_back(self, coins):
        """Coins go from what is kept, that of the oldest half first, then from what is open."""
        halves = sorted(self.kept)
        for half in halves:
            taken = coins if is_less(coins, self.kept[half]) else self.kept[half]
            self.kept[half] = taken_from(taken, self.kept[half])
            coins = taken_from(taken, coins)
        self.ready = taken_from(coins, self.ready)

    def end_half(self, half):
        """What was kept ahead of this half is open, and the whole coins of what is open are spent."""
        self.freed[half] = sum_of([coins for old, coins in self.kept.items() if old < half])
        self.ready = sum_of([self.ready, self.freed[half]])
        self.kept = {old: coins for old, coins in self.kept.items() if old >= half}
        coins = whole_of(self.ready)
        if coins >= 1:
            self.ready = taken_from((coins, 1), self.ready)
            self.spend(half, coins)

    def spend(self, half, coins):
        """Whole coins work off what is owed, and the rest of them is paid."""
        rest = coins
        for kind in DEBT_KINDS:
            worked = min(rest, self.owed[kind])
            self.owed[kind] -= worked
            rest -= worked
        self.worked[half] = coins - rest
        self.paid[half] = rest

    def all_kept(self):
        """What is kept of all halves together."""
        return sum_of(list(self.kept.values()))

    def all_spent(self):
        """What was worked off and paid in all halves together."""
        return sum(self.worked.values()) + sum(self.paid.values())


class Ledger:
    """Whose each coin is that came in by a book up to a day, and behind that day."""

    def __init__(self, book, day):
        self.purses = {person: Purse(book.keep_of(person)) for person in book.person_names()}
        self.waiting = {work: NOTHING for work in book.work_names()}
        self.came = NOTHING
        half_days = book.half_days()
        days = busy_days(book, day)
        # What came in a half is opened and spent by the end of the next one; later ends find nothing to do.
        halves = sorted({busy_day // half_days + later for busy_day in days for later in (0, 1)})
        for half in halves:
            for busy_day in days:
                if busy_day // half_days == half:
                    self.go_through(book, busy_day, half)
            if (half + 1) * half_days <= day + 1:
                self.end_half(half)

    def go_through(self, book, day, half):
        """All of one day: who becomes known, then the debts, then the money."""
        for work in book.work_names():
            known = book.known_of(work)
            if known is not None and known[0] == day and self.waiting[work] != NOTHING:
                coins = self.waiting[work]
                self.waiting[work] = NOTHING
                # People hand on to people alone, so no counts of works are asked.
                self.spread(half, parted_by(share_list(book, known[1], day, {}), coins))
        for kind, debt_day, person, owed in book.debt_list():
            if debt_day == day:
                self.purses[person].owe(kind, owed)
        for number, row in enumerate(book.money_list()):
            if row[1] == day:
                self.came = sum_of([self.came, coins_of(book, row)])
                self.spread(half, credit_list(book, number))

    def spread(self, half, parted):
        """Coins, as pairs (name, coins), come to people and wait at works."""
        for name, coins in parted:
            if name in self.purses:
                self.purses[name].take_in(half, coins)
            else:
                self.waiting[name] = sum_of([self.waiting[name], coins])

    def end_half(self, half):
        """Each person's half ends."""
        for purse in self.purses.values():
            purse.end_half(half)

    def purse_of(self, person):
        """The person's purse; refused with NoName where there is no such person."""
        if person not in self.purses:
            raise NoName(f"no person is called {person}")
        return self.purses[person]

    def open_of(self, person):
        """What is open for the person."""
        return self.purse_of(person).ready

    def kept_of(self, person):
        """What is kept back of the person's."""
        return self.purse_of(person).all_kept()

    def debt_of(self, person):
        """What the person has not worked off, as (wrong, advance)."""
        owed = self.purse_of(person).owed
        return (owed["wrong"], owed["advance"])

    def worked_of(self, person):
        """How many coins the person has worked off."""
        return sum(self.purse_of(person).worked.values())

    def paid_of(self, person):
        """How many coins were paid to the person."""
        return sum(self.purse_of(person).paid.values())

    def due_of(self, person):
        """All that came to the person: what is open, kept, worked off and paid."""
        purse = self.purse_of(person)
        return sum_of([purse.ready, purse.all_kept(), (purse.all_spent(), 1)])

    def done_in(self, person, half):
        """What came to the person, was opened, worked off and paid in one half, as a tuple."""
        purse = self.purse_of(person)
        return (purse.earned.get(half, NOTHING), purse.freed.get(half, NOTHING),
                purse.worked.get(half, 0), purse.paid.get(half, 0))

    def waits_of(self, work):
        """What waits at the work."""
        if work not in self.waiting:
            raise NoName(f"no work is called {work}")
        return self.waiting[work]

    def came_in(self):
        """All that was sold less all that was brought back, in coins."""
        return self.came
