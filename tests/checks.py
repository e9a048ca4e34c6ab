"""What the tests share."""

import unittest
from itertools import product


class Checks(unittest.TestCase):
    """Checks of values and of errors."""

    maxDiff = None

    def same(self, found, wanted):
        """The values are equal and of the same kinds: no list for a tuple, no 1 for True."""
        self.assertEqual(repr(found), repr(wanted))

    def refused(self, error, values, call, *given, **named):
        """The call raises just this error, with these values in its attributes."""
        with self.assertRaises(error) as caught:
            call(*given, **named)
        self.assertIs(caught.exception.__class__, error)
        self.same({name: getattr(caught.exception, name) for name in values}, values)

    def defined_in(self, module, names):
        """The module itself defines what has these names."""
        for name in names:
            self.assertEqual(getattr(module, name).__module__, module.__name__, name)


def rows(pool, most):
    """All tuples of at most so many items of the pool."""
    return [row for many in range(most + 1) for row in product(pool, repeat=many)]


def all_pairs(kinds):
    """The PAIRS of all Books of these KINDS."""
    couples = [(one, other) for one in kinds for other in kinds if one < other]
    found = []
    for choice in product((0, 1, 2), repeat=len(couples)):
        pairs = [couple[::turn] for couple, turn in zip(couples, [(0, 1, -1)[way] for way in choice]) if turn]
        found.append(tuple(sorted(pairs)))
    return found
