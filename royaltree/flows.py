"""Flows: where a coin that comes to a person or a work goes on to, round rings too, and where it stays."""

from royaltree.errors import Endless
from royaltree.fractions import NOTHING, ONE, fraction_of, greatest_divisor, product_of, sum_of, taken_from
from royaltree.parting import gathered, left_shares, parts_at, waits_at


def leads_from(book, name, day, counts):
    """Where a coin that comes to the name goes on to: pairs (name, fraction), names rising, above 0."""
    if name in book.person_names():
        return person_leads(book, name, day)
    return work_leads(book, name, day, counts.get(name, 0))


def person_leads(book, person, day):
    """What the person's hands up to that day hand on of a coin."""
    # A hand takes its part of what the hands ahead leave, just as a left row does of a coin.
    hands = [("left", name, part) for hand_day, name, part in book.hands_of(person) if hand_day <= day]
    shares, rest = left_shares(hands, ONE)
    return gathered(shares)


def work_leads(book, work, day, unit):
    """What the work's rows, and its maker where known by that day, get of a coin for the unit."""
    rows = book.rows_of(work)
    shares = parts_at(rows, unit)
    known = book.known_of(work)
    if known is not None and known[0] <= day:
        shares.append((known[1], waits_at(rows, unit)))
    return gathered(shares)


def stays_at(book, name, day, counts):
    """What of a coin that comes to the name goes nowhere on."""
    return rest_behind(leads_from(book, name, day, counts))


def rest_behind(leads):
    """What of a coin leads like these leave."""
    return taken_from(sum_of([part for name, part in leads]), ONE)


def leads_by_name(book, name, day, counts):
    """The leads of each name to which a way leads from this one, as a dict."""
    leads = {}
    to_see = [name]
    while to_see:
        seen = to_see.pop()
        if seen not in leads:
            leads[seen] = leads_from(book, seen, day, counts)
            to_see.extend([other for other, part in leads[seen]])
    return leads


def endless_names(leads):
    """Those from which no way leads to a name at which something stays, as a rising tuple."""
    ending = {name for name in leads if rest_behind(leads[name]) != NOTHING}
    many = 0
    while many < len(ending):
        many = len(ending)
        for name in leads:
            if any([other in ending for other, part in leads[name]]):
                ending.add(name)
    return tuple(sorted([name for name in leads if name not in ending]))


def common_below(leads):
    """The least number that the belows of all these leads divide."""
    common = 1
    for name, (top, below) in leads:
        common *= below // greatest_divisor(common, below)
    return common


def equations(leads, start, belows):
    """The plain equations of the names of leads, in their order, as rows of whole numbers.

    What is looked for is each name's flow by its common below: so all numbers stay whole, and small. A row has
    one number for each name, and what they come to together behind them.
    """
    rows = {name: {name: belows[name]} for name in leads}
    for giver in leads:
        for taker, (top, below) in leads[giver]:
            rows[taker][giver] = rows[taker].get(giver, 0) - belows[giver] // below * top
    return [[rows[name].get(giver, 0) for giver in leads] + [1 if name == start else 0] for name in leads]


def solved(rows):
    """The fractions for which rows of whole numbers, as equations has them, hold.

    Each round strikes the first name left out of all rows but its own, by multiplying across; what the round ahead
    multiplied all with divides everything, so the numbers grow no longer than they must. The number divided by is
    never 0: of the names struck so far, each has a way to where something stays or to a name not struck yet.
    """
    divisor = 1
    for at in range(len(rows)):
        pivot = rows[at]
        rows = [row[1:] if place == at else struck(row, pivot, divisor) for place, row in enumerate(rows)]
        divisor = pivot[0]
    return [fraction_of(row[0], divisor) for row in rows]


def struck(row, pivot, divisor):
    """The row without its first name, which the pivot's row has too."""
    head, pivot_head = row[0], pivot[0]
    return [(number * pivot_head - head * other) // divisor for number, other in zip(row[1:], pivot[1:])]


def flows_by_name(leads, start):
    """The flow of each name of leads, where a coin comes to start, as a dict; refused with Endless."""
    endless = endless_names(leads)
    if endless:
        raise Endless(endless)
    belows = {name: common_below(leads[name]) for name in leads}
    answers = solved(equations(leads, start, belows))
    return {name: product_of(answer, (belows[name], 1)) for name, answer in zip(leads, answers)}


def flow_list(book, name, day, counts):
    """How much comes by each name of a coin that comes to this one: pairs (name, flow), names rising."""
    return sorted(flows_by_name(leads_by_name(book, name, day, counts), name).items())


def share_list(book, name, day, counts):
    """Where a coin that comes to this name stays: pairs (name, fraction), names rising, above 0."""
    leads = leads_by_name(book, name, day, counts)
    flows = flows_by_name(leads, name)
    return gathered([(other, product_of(flows[other], rest_behind(leads[other]))) for other in leads])
