"""A hidden Book, told by the ends of QUEUES of two."""

from letahead.errors import AllKnown, BadAnswer, NothingDone
from letahead.values import is_numbers, tuples

STAYED = (0, 1)
TURNED = (1, 0)


class Survey:
    """What is known of a hidden Book of these KINDS."""

    def __init__(self, kinds):
        self._kinds = tuples(kinds)
        # Each QUEUE that was asked, with its end.
        self._told = []
        # The QUEUES whose ends neither were told nor follow, the next one first.
        self._waiting = tuple([(one, other) for one in self._kinds for other in self._kinds if one != other])
        # What _waiting was ahead of each end that was told.
        self._past = []

    @property
    def kinds(self):
        """The ascending tuple of the KINDS."""
        return self._kinds

    @property
    def pairs(self):
        """The PAIRS of which it was told that the first one lets the other one."""
        return tuple(sorted([queue for queue, order in self._told if order == TURNED]))

    @property
    def ask(self):
        """The next QUEUE whose end is not known; None if there is none."""
        return self._waiting[0] if self._waiting else None

    def __len__(self):
        return len(self._told)

    def __eq__(self, other):
        return isinstance(other, Survey) and self._kinds == other._kinds and self._told == other._told

    def tell(self, order):
        """Take this as the end of the QUEUE that is asked; AllKnown() if none is, BadAnswer(answer) if it is no end."""
        queue = self.ask
        if queue is None:
            raise AllKnown()
        answer = tuples(order)
        # True and False are no numbers, though they equal 1 and 0.
        if not is_numbers(answer) or answer not in (STAYED, TURNED):
            raise BadAnswer(answer)
        self._told.append((queue, answer))
        self._past.append(self._waiting)
        self._waiting = still_waiting(self._waiting, answer)

    def back(self):
        """Take back that the last end was told; NothingDone() if there is none."""
        if not self._told:
            raise NothingDone()
        self._told.pop()
        self._waiting = self._past.pop()

    def twin(self):
        """Return a Survey equal to this one that shares nothing with it."""
        other = Survey(self._kinds)
        other._told = list(self._told)
        other._waiting = self._waiting
        other._past = list(self._past)
        return other


def still_waiting(waiting, order):
    """Return the QUEUES of waiting whose ends neither are told nor follow when this is the end of the first one."""
    if order == STAYED:
        return waiting[1:]
    # Who is let by the one whom they would let ahead lets them not.
    one, other = waiting[0]
    return tuple([queue for queue in waiting[1:] if queue != (other, one)])


def surveyed(kinds, asker):
    """Return the PAIRS of the hidden Book, whose ends asker returns; BadAnswer(answer) for what is no end."""
    survey = Survey(kinds)
    queue = survey.ask
    while queue is not None:
        survey.tell(asker(queue))
        queue = survey.ask
    return survey.pairs
