"""What the tests share."""

import unittest
from itertools import product


class Checks(unittest.TestCase):
    """Checks of values and of errors."""

    maxDiff = None

    def same(self, found, wanted):
        """The values are equal and of the same kinds: no list for a tuple, no 1 for True."""
        self.assertEqual(repr(found), repr(wanted))

    def refused(self, error, values, call, *given, **named):
        """The call raises just this error, with these values in its attributes."""
        with self.assertRaises(error) as caught:
            call(*given, **named)
        self.assertIs(caught.exception.__class__, error)
        self.same({name: getattr(caught.exception, name) for name in values}, values)

    def same_each_way(self, wanted, call, **named):
        """The result is the same by position and by name, and with lists for tuples; what is given stays as it is."""
        listed = {name: part if name == "thing" else lists(part) for name, part in named.items()}
        before = repr((named, listed))
        for given in (named, listed):
            self.same(call(*given.values()), wanted)
            self.same(call(**dict(reversed(given.items()))), wanted)
        self.same(repr((named, listed)), before)

    def refused_each_way(self, error, values, call, **named):
        """The error is the same by position and by name, and with lists for tuples."""
        for given in (named, {name: part if name == "thing" else lists(part) for name, part in named.items()}):
            self.refused(error, values, call, *given.values())
            self.refused(error, values, call, **dict(reversed(given.items())))

    def defined_in(self, module, names):
        """The module itself defines what has these names."""
        for name in names:
            self.assertEqual(getattr(module, name).__module__, module.__name__, name)


def lists(thing):
    """The same with a list in the place of each tuple."""
    return [lists(part) for part in thing] if isinstance(thing, (list, tuple)) else thing


def tuples(thing):
    """The same with a tuple in the place of each list."""
    return tuple(tuples(part) for part in thing) if isinstance(thing, (list, tuple)) else thing


def rows(pool, most):
    """All tuples of at most so many items of the pool."""
    return [row for many in range(most + 1) for row in product(pool, repeat=many)]


def numbers_from(seed):
    """Numbers without an end, in no order that can be seen, and the same each time."""
    while True:
        seed = (seed * 1103515245 + 12345) & 0x7FFFFFFF
        yield seed >> 8


def all_pairs(kinds):
    """The PAIRS of all Books of these KINDS."""
    couples = [(one, other) for one in kinds for other in kinds if one < other]
    found = []
    for choice in product((0, 1, 2), repeat=len(couples)):
        pairs = [couple[::turn] for couple, turn in zip(couples, [(0, 1, -1)[way] for way in choice]) if turn]
        found.append(tuple(sorted(pairs)))
    return found
