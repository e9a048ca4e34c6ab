"""A queue that changes: persons let others ahead, come and go away."""

from letahead.courses import exchanged, is_possible, kinds_after, order_at_first
from letahead.errors import NoPlace, NothingDone
from letahead.orders import turned_about
from letahead.values import tuples


class Watch:
    """A QUEUE, by a Book, as it stands."""

    def __init__(self, book, queue):
        self._book = book
        # The KINDS of all who ever came, by their numbers.
        self._came = tuples(queue)
        self._persons = order_at_first(self._came)
        # What _came and _persons were ahead of each deed.
        self._past = []

    @property
    def book(self):
        """The Book."""
        return self._book

    @property
    def queue(self):
        """The tuple of the KINDS as they stand now."""
        return kinds_after(self._came, self._persons)

    @property
    def persons(self):
        """The tuple of the numbers of the persons as they stand now."""
        return self._persons

    @property
    def turned(self):
        """The ascending tuple of the pairs of persons who stand there the other way about than they came."""
        return tuple(turned_about(self._persons))

    def __len__(self):
        return len(self._past)

    def __eq__(self, other):
        if not isinstance(other, Watch):
            return False
        return self._book == other._book and self.queue == other.queue and self._persons == other._persons

    def exchange(self, place):
        """Let the person behind this place come ahead; NoPlace(number) if that is not possible."""
        if not is_possible(self._book, self._came, self._persons, place):
            raise NoPlace(place)
        return self._go_on(self._came, exchanged(self._persons, place))

    def join(self, kind):
        """Let a person of this KIND come, behind all."""
        return self._go_on(self._came + (kind,), self._persons + (len(self._came),))

    def leave(self, place):
        """Let the person at this place go away; NoPlace(number) if nobody stands there."""
        return self._go_on(self._came, without_place(self._persons, place))

    def back(self):
        """Take the last deed back; NothingDone() if there is none."""
        if not self._past:
            raise NothingDone()
        self._came, self._persons = self._past.pop()

    def twin(self):
        """Return a Watch equal to this one, with the same deeds to take back, that shares nothing with it."""
        other = Watch(self._book, self._came)
        other._persons = self._persons
        other._past = list(self._past)
        return other

    def _go_on(self, came, persons):
        """Do the deed behind which these have come and these stand there; return queue."""
        self._past.append((self._came, self._persons))
        self._came = came
        self._persons = persons
        return self.queue


def without_place(row, place):
    """Return the tuple without what stands at this place; NoPlace(number) if nothing stands there."""
    if not 0 <= place < len(row):
        raise NoPlace(place)
    return row[:place] + row[place + 1:]
