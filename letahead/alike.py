"""Books beside one another: by which of them more can come about."""

from letahead.books import Book
from letahead.errors import BadPair
from letahead.values import is_names


def lets_more(one, other):
    """Tell whether by one all ORDERS of all QUEUES can come about that can by other."""
    return pairs_against(one, other) == []


def alike(one, other):
    """Tell whether by both the same ORDERS of all QUEUES can come about."""
    return one == other


def queue_against(one, other):
    """Return a QUEUE in which some ORDER can come about by other and not by one; None if there is none."""
    # With two persons alone nobody stands between whom they could not come past.
    pairs = pairs_against(one, other)
    return pairs[0] if pairs else None


def is_queue_against(one, other, thing):
    """Tell whether thing is a QUEUE in which some ORDER can come about by other and not by one."""
    return is_names(thing) and any([is_passed_against(one, other, kind, thing) for kind in other.kinds])


def common(one, other):
    """Return the Book by which just those ORDERS of all QUEUES can come about that can by both."""
    return Book([pair for pair in one.pairs if pair in other])


def either(one, other):
    """Return the least Book by which all ORDERS can come about that can by one of both; None if there is none."""
    try:
        return Book(one.pairs + other.pairs)
    except BadPair:
        return None


def pairs_against(one, other):
    """Return the ascending list of the PAIRS of other that are none of one."""
    return [pair for pair in other.pairs if pair not in one]


def let_by(pairs, kind):
    """Return the list of the KINDS that this KIND lets by these PAIRS."""
    return [last for first, last in pairs if first == kind]


def is_passed_against(one, other, kind, queue):
    """Tell whether by other somebody can come ahead of one of this KIND, who does not let them by one."""
    missed = let_by(pairs_against(one, other), kind)
    let = {first: let_by(other.pairs, first) for first in other.kinds}
    # Those to whom no chain leads from the last person of the KIND: chains from those in front of
    # that person lead to all to whom its own lead, so they need not be asked.
    free = []
    for now in queue:
        if now == kind:
            free = let[kind]
        elif now not in free:
            # A chain leads to this person, and goes on to all whom they do not let.
            free = [last for last in free if last in let.get(now, ())]
        elif now in missed:
            return True
    return False
