"""Whether a thing shows the flows of a coin: the plain equations are tried on it, not solved."""

from royaltree.errors import NoName
from royaltree.flows import endless_names, leads_by_name
from royaltree.fractions import NOTHING, ONE, product_of, sum_of
from royaltree.kinds import is_fraction, is_tuple_of


def shows_flow(book, name, day, counts, thing):
    """Whether a thing of any make is what flow_list tells, in any order; nothing is where that is refused."""
    try:
        leads = leads_by_name(book, name, day, counts)
    except NoName:
        return False
    if endless_names(leads) or not is_flows(thing):
        return False
    if sorted([other for other, flow in thing]) != sorted(leads):
        return False
    flows = dict(thing)
    return all([flows[other] == comes_to(other, name, leads, flows) for other in leads])


def is_flows(thing):
    """Whether a thing is a list or tuple of pairs of a text and a fraction."""
    if not isinstance(thing, (list, tuple)):
        return False
    return all([is_tuple_of(pair, 2) and isinstance(pair[0], str) and is_fraction(pair[1]) for pair in thing])


def comes_to(name, start, leads, flows):
    """What comes to the name by these flows, with the coin itself where it is the start."""
    coin = ONE if name == start else NOTHING
    return sum_of([coin] + [product_of(flows[giver], part)
                            for giver in leads for taker, part in leads[giver] if taker == name])
