"""Books: who lets whom ahead."""

from letahead.errors import BadPair
from letahead.texts import pairs_from, pairs_text
from letahead.values import fits, is_names, tuples


class Book:
    """The PAIRS (one, other) of KINDS of which one lets other ahead."""

    def __init__(self, pairs=()):
        known = {}
        for place, pair in enumerate(tuples(pairs)):
            if not fits(pair, known):
                raise BadPair(place)
            known[pair] = True
        self._pairs = tuple(sorted(known))

    @staticmethod
    def of(text):
        """Return the Book with this text; BadText(piece) for the first wrong piece."""
        return Book(pairs_from(text))

    @property
    def pairs(self):
        """The PAIRS."""
        return self._pairs

    @property
    def kinds(self):
        """The ascending tuple of the KINDS of the PAIRS."""
        return tuple(sorted({kind for pair in self._pairs for kind in pair}))

    @property
    def text(self):
        """The text of the PAIRS."""
        return pairs_text(self._pairs)

    def __len__(self):
        return len(self._pairs)

    def __contains__(self, pair):
        return tuples(pair) in self._pairs

    def __eq__(self, other):
        return isinstance(other, Book) and self._pairs == other._pairs


def is_pairs(thing):
    """Tell whether thing is PAIRS."""
    if not isinstance(thing, tuple) or not all([is_kind_pair(part) for part in thing]):
        return False
    known = {pair: True for pair in thing}
    return list(thing) == sorted(known) and all([fits(pair, known) for pair in thing])


def is_kind_pair(thing):
    """Tell whether thing is a tuple of two KINDS, like or unlike."""
    return is_names(thing) and len(thing) == 2


def lets(book, one, other):
    """Tell whether one lets other ahead."""
    return (one, other) in book.pairs


def is_handed_on(book):
    """Tell whether one lets last whenever one lets some mid and that one lets last."""
    return against_handed_on(book) is None


def against_handed_on(book):
    """Return the least (one, mid, last) that shows that the Book is not handed on; None if there is none."""
    # The PAIRS ascend, so the first triple that is found is the least one.
    for one, mid in book.pairs:
        for giver, last in book.pairs:
            if giver == mid and not lets(book, one, last):
                return (one, mid, last)
    return None


def handed_on(book):
    """Return the least Book above this one that is handed on; None if there is none."""
    pairs = {pair: True for pair in book.pairs}
    # With mid outermost, one round finds the pairs that follow from pairs that were found, too.
    for mid in book.kinds:
        before = [one for one in book.kinds if (one, mid) in pairs]
        behind = [last for last in book.kinds if (mid, last) in pairs]
        for one in before:
            for last in behind:
                pairs[(one, last)] = True
    # Whoever lets themselves now stands in a ring of KINDS, and no Book above it is handed on.
    if any([(kind, kind) in pairs for kind in book.kinds]):
        return None
    return Book(list(pairs))


def with_pair(book, one, other):
    """Return the Book with this pair, too; BadPair(place), the number of its PAIRS, if it can not have it."""
    # The new pair stands last, so its place is the number of the others.
    return Book(book.pairs + ((one, other),))


def without_pair(book, one, other):
    """Return the Book without this pair."""
    if not lets(book, one, other):
        return book
    return Book([pair for pair in book.pairs if pair != (one, other)])
