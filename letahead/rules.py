"""Rules by numbers: whoever has much lets whoever has little."""

from letahead.books import Book
from letahead.values import is_name, is_numbers, tuples


def is_rules(thing):
    """Tell whether thing is a tuple of RULES, however many."""
    return isinstance(thing, tuple) and all([is_rule(part) for part in thing])


def is_rule(thing):
    """Tell whether thing is a tuple of two numbers from 0, the first one above the second one."""
    return is_numbers(thing) and len(thing) == 2 and thing[0] > thing[1] >= 0


def lets_by(rules, mine, its):
    """Tell whether by some RULE who has the first number lets who has the second one."""
    return any([mine >= least and its <= most for least, most in rules])


def plain_rules(rules):
    """Return the ascending tuple of as few RULES as can be by which the same let the same."""
    known = tuples(rules)
    return tuple(sorted({rule for rule in known if not is_needless(rule, known)}))


def is_needless(rule, rules):
    """Tell whether another one of the RULES tells all that this one tells."""
    return any([other != rule and lets_by((other,), rule[0], rule[1]) for other in rules])


def same_rules(one, other):
    """Tell whether by both RULES the same let the same."""
    return plain_rules(one) == plain_rules(other)


def book_of(rules, sizes):
    """Return the Book of the pairs of KINDS of SIZES of which, by the RULES, the first one lets the other one."""
    return Book([(one, other) for one, mine in sizes for other, its in sizes if lets_by(rules, mine, its)])


def sizes_for(book):
    """Return a pair (RULES, SIZES) of the KINDS of the Book by which it comes; None if there is none."""
    sizes = tuple([(kind, size_of(book, kind)) for kind in book.kinds])
    numbers = dict(sizes)
    found = (plain_rules([(numbers[one], numbers[other]) for one, other in book.pairs]), sizes)
    return found if is_sizes_for(book, found) else None


def size_of(book, kind):
    """Return the size by which this KIND lets whom it lets, if the Book comes by some RULES and SIZES at all."""
    # Then the sets of those whom KINDS let lie one in another, and so do the sets of those who let
    # them, the other way about. As many as there are KINDS are added, so that nothing is below 0.
    given = [one for one, _ in book.pairs].count(kind)
    taken = [other for _, other in book.pairs].count(kind)
    return len(book.kinds) + given - taken


def is_sizes_for(book, thing):
    """Tell whether thing is a pair (RULES, SIZES) of the KINDS of the Book by which it comes."""
    if not isinstance(thing, tuple) or len(thing) != 2:
        return False
    rules, sizes = thing
    if not is_rules(rules) or not is_sized(sizes):
        return False
    # The KINDS of a Book ascend, each once, so those of SIZES do it, too.
    return tuple([kind for kind, _ in sizes]) == book.kinds and book_of(rules, sizes) == book


def is_sized(thing):
    """Tell whether thing is a tuple of pairs (KIND, number from 0), in any order."""
    return isinstance(thing, tuple) and all([is_size(part) for part in thing])


def is_size(thing):
    """Tell whether thing is a tuple of a KIND and a number from 0."""
    if not isinstance(thing, tuple) or len(thing) != 2:
        return False
    return is_name(thing[0]) and is_numbers(thing[1:]) and thing[1] >= 0
