"""All COURSES, gone through one EXCHANGE behind another, for the tests; nothing here asks the package."""

from itertools import permutations

from checks import all_pairs, rows


def steps(pairs, queue, order):
    """The places at which who stands there lets the one behind ahead."""
    return [at for at in range(len(order) - 1) if (queue[order[at]], queue[order[at + 1]]) in pairs]


def stepped(order, place):
    """The ORDER after this EXCHANGE."""
    row = list(order)
    row[place:place + 2] = row[place + 1], row[place]
    return tuple(row)


def walked(pairs, queue):
    """All ORDERS that come about, each with the list of all COURSES to it."""
    found = {tuple(range(len(queue))): [()]}
    last = dict(found)
    while last:
        longer = {}
        for order, courses in last.items():
            for place in steps(pairs, queue, order):
                longer.setdefault(stepped(order, place), []).extend([course + (place,) for course in courses])
        for order, courses in longer.items():
            found.setdefault(order, []).extend(courses)
        last = longer
    return found


def reached(pairs, queue):
    """The ORDERS that come about, without their COURSES."""
    found = {tuple(range(len(queue)))}
    last = list(found)
    while last:
        last = list({stepped(order, place) for order in last for place in steps(pairs, queue, order)} - found)
        found.update(last)
    return sorted(found)


def orders_of(queue):
    """All ORDERS of a QUEUE, also those that can not come about."""
    return list(permutations(range(len(queue))))


def is_handed(pairs):
    """Whether these are the PAIRS of a Book that is handed on."""
    return all((one, last) in pairs for one, mid in pairs for giver, last in pairs if mid == giver)


def pairs_of(text):
    """The PAIRS that the words of a text tell, two by two: "ab bc" for a lets b, b lets c."""
    return tuple(sorted((word[0], word[1]) for word in text.split()))


# Books in which all, some and none let, handed on and not, beside QUEUES in which KINDS stand again.
WIDER = [
    (pairs_of(text), tuple(queue))
    for text in ("ab bc", "ab ac bc", "ab bc ca", "ac bc", "ca cb", "ab cd", "ab bc cd ad", "")
    for queue in ("aabb", "abca", "babc", "cabc", "accb", "dabc", "cbad", "abcab", "aabbc", "abcde", "zabzc")
]
SMALL = [
    (pairs, queue) for pairs in all_pairs("abc") for queue in rows("abc", 3)
] + [
    (pairs, tuple("abcd")) for pairs in all_pairs("abcd")
] + WIDER

# Each with the ORDERS that come about and all COURSES to them.
CASES = [(pairs, queue, walked(pairs, queue)) for pairs, queue in SMALL]


def nested(inner, depth):
    """Tuples of one, one in another."""
    return (nested(inner, depth - 1),) if depth else inner


# Not one tuple of numbers among them.
NO_NUMBERS = [
    None, True, False, 0, 1, -1, 10 ** 40, "", "0", "0 1", "()", [], [0], [0, 1], [()], ("0",), ("",), (None,), (True,),
    (False,), (0, True), (False, 1), (True, False), ((),), ([],), ((0,),), ([0],), (0, (1,)), (0, "1"), (0, None),
    ((0, 1),), "a" * 10 ** 5, [0] * 10 ** 5, (0,) * 1000 + (None,), nested(0, 12), nested((), 11), nested([0], 11),
]
