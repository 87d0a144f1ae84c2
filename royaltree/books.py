"""Books: the people, the works, and all that is told of them by days."""

from royaltree.errors import NoName, NoneLeft, NoRate, Taken, TooMuch
from royaltree.fractions import NOTHING, ONE
from royaltree.parting import too_much

COIN = "coin"
FIRST_HALF_DAYS = 182


def by_days(rows):
    """Rows (kind, day, ..) by days, those of one day as they stand."""
    return sorted(rows, key=lambda row: row[1])


def units_more(row):
    """By how many units of its work a row of money makes those that are out more, or less."""
    kind, day, work, count, amount, currency = row
    return count if kind == "sold" else -count


def lacks_units(rows, work):
    """Whether at some row of money more of the work is brought back than the rows ahead left."""
    left = 0
    for row in rows:
        if row[2] == work:
            left += units_more(row)
            if left < 0:
                return True
    return False


def rows_without(rows, name):
    """A work's rows but those that name this one, in their order."""
    return tuple([row for row in rows if row[1] != name])


class Book:
    """What is told of people, works, currencies, money and debts, in whatever order of days."""

    def __init__(self):
        # Each dict has one key for each thing that can be told but once, so that a twin is a plain copy.
        self.keeps = {}
        self.rows = {}
        self.hands = {}
        self.makers = {}
        self.rates = {}
        self.half = FIRST_HALF_DAYS
        self.money = []
        self.debts = []

    def need_person(self, name):
        """Refused with NoName where no person has the name."""
        if name not in self.keeps:
            raise NoName(f"no person is called {name}")

    def need_work(self, name):
        """Refused with NoName where no work has the name."""
        if name not in self.rows:
            raise NoName(f"no work is called {name}")

    def has_name(self, name):
        """Whether a person or a work has the name."""
        return name in self.keeps or name in self.rows

    def need_free(self, name):
        """Refused with Taken where a person or a work has the name."""
        if self.has_name(name):
            raise Taken(f"a person or a work is called {name} already")

    def add_person(self, name):
        """A person of this name is there from now on."""
        self.need_free(name)
        self.keeps[name] = NOTHING

    def add_work(self, name):
        """A work of this name, without rows, is there from now on."""
        self.need_free(name)
        self.rows[name] = ()

    def person_names(self):
        """The names of all people, rising."""
        return sorted(self.keeps)

    def work_names(self):
        """The names of all works, rising."""
        return sorted(self.rows)

    def put_rows(self, work, rows):
        """The work's rows are these from now on."""
        self.need_work(work)
        for kind, name, told in rows:
            if not self.has_name(name):
                raise NoName(f"no person and no work is called {name}")
        if too_much(rows):
            raise TooMuch("the rows give away more than the whole")
        self.rows[work] = rows

    def rows_of(self, work):
        """The work's rows as they are now."""
        self.need_work(work)
        return self.rows[work]

    def hand_on(self, person, day, name, part):
        """From this day on the person hands on a part of what they would still have to another."""
        self.need_person(person)
        self.need_person(name)
        if person == name:
            raise NoName("nobody hands on to themselves")
        if (person, day) in self.hands:
            raise Taken(f"{person} has a hand of that day already")
        self.hands[(person, day)] = (name, part)

    def hands_of(self, person):
        """The person's hands (day, name, part), rising."""
        self.need_person(person)
        return [(day, name, part) for (giver, day), (name, part) in sorted(self.hands.items()) if giver == person]

    def make_known(self, work, day, person):
        """From this day on what no row of the work tells goes to the person."""
        self.need_work(work)
        self.need_person(person)
        if work in self.makers:
            raise Taken(f"the maker of {work} is known already")
        self.makers[work] = (day, person)

    def known_of(self, work):
        """The work's maker as (day, person), or None."""
        self.need_work(work)
        return self.makers.get(work)

    def put_rate(self, currency, day, worth):
        """From this day on one unit of the currency is worth so many coins."""
        if currency == COIN:
            raise Taken("a coin is worth a coin")
        if (currency, day) in self.rates:
            raise Taken(f"{currency} has a worth of that day already")
        self.rates[(currency, day)] = worth

    def worth_of(self, currency, day):
        """How many coins one unit of the currency is worth on that day."""
        if currency == COIN:
            return ONE
        days = [told_day for told, told_day in self.rates if told == currency and told_day <= day]
        if not days:
            raise NoRate(f"{currency} has no worth on that day")
        return self.rates[(currency, max(days))]

    def rate_list(self):
        """All worths as (currency, day, worth), rising."""
        return [(currency, day, worth) for (currency, day), worth in sorted(self.rates.items())]

    def put_keep(self, person, part):
        """So much of what comes to the person is kept back, on all days."""
        self.need_person(person)
        self.keeps[person] = part

    def keep_of(self, person):
        """The part that is kept back of what comes to the person."""
        self.need_person(person)
        return self.keeps[person]

    def put_half(self, days):
        """A half has so many days, on all days."""
        self.half = days

    def half_days(self):
        """How many days a half has."""
        return self.half

    def put_sold(self, day, work, count, amount, currency):
        """So many units of the work were sold for so much together."""
        self.need_work(work)
        # Asked for its refusal alone: the worth itself may still be told otherwise for days between.
        self.worth_of(currency, day)
        self.money.append(("sold", day, work, count, amount, currency))

    def put_back(self, day, work, count, amount, currency):
        """The last so many units of the work were brought back, so much was paid back."""
        self.need_work(work)
        self.worth_of(currency, day)
        row = ("back", day, work, count, amount, currency)
        if lacks_units(by_days(self.money + [row]), work):
            raise NoneLeft(f"more of {work} would be brought back than were left")
        self.money.append(row)

    def money_list(self):
        """All rows of money (kind, day, work, count, amount, currency), by days."""
        return by_days(self.money)

    def put_debt(self, kind, day, person, coins):
        """The person got an advance, or was paid wrongly, so many coins."""
        self.need_person(person)
        self.debts.append((kind, day, person, coins))

    def debt_list(self):
        """All debts (kind, day, person, coins), by days."""
        return by_days(self.debts)

    def drop_work(self, work):
        """Nothing is told of the work any longer: its rows, maker and money go, and all rows that name it."""
        self.need_work(work)
        self.rows = {other: rows_without(rows, work) for other, rows in self.rows.items() if other != work}
        self.makers = {other: known for other, known in self.makers.items() if other != work}
        self.money = [row for row in self.money if row[2] != work]

    def twin_book(self):
        """A Book of its own of which the same was told."""
        twin = Book()
        twin.keeps = dict(self.keeps)
        twin.rows = dict(self.rows)
        twin.hands = dict(self.hands)
        twin.makers = dict(self.makers)
        twin.rates = dict(self.rates)
        twin.half = self.half
        twin.money = list(self.money)
        twin.debts = list(self.debts)
        return twin
