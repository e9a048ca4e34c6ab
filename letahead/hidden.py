"""A hidden Book, told by the ends of QUEUES of two."""

from letahead.errors import AllKnown, BadAnswer, NothingDone
from letahead.values import is_numbers, tuples

STAYED = (0, 1)
TURNED = (1, 0)


class Survey:
    """What is known of a hidden Book of these KINDS."""

    def __init__(self, kinds):
        self._kinds = tuples(kinds)
        # Each QUEUE that was asked, with its end.
        self._told = []

    @property
    def kinds(self):
        """The ascending tuple of the KINDS."""
        return self._kinds

    @property
    def pairs(self):
        """The PAIRS of which it was told that the first one lets the other one."""
        return tuple(sorted([queue for queue, order in self._told if order == TURNED]))

    @property
    def ask(self):
        """The next QUEUE whose end is not known; None if there is none."""
        waiting = [
            (one, other) for one in self._kinds for other in self._kinds
            if one != other and not is_known(self._told, one, other)
        ]
        return waiting[0] if waiting else None

    def __len__(self):
        return len(self._told)

    def __eq__(self, other):
        return isinstance(other, Survey) and self._kinds == other._kinds and self._told == other._told

    def tell(self, order):
        """Take this as the end of the QUEUE that is asked; AllKnown() if none is, BadAnswer(answer) if it is no end."""
        queue = self.ask
        if queue is None:
            raise AllKnown()
        answer = tuples(order)
        # True and False are no numbers, though they equal 1 and 0.
        if not is_numbers(answer) or answer not in (STAYED, TURNED):
            raise BadAnswer(answer)
        self._told.append((queue, answer))

    def back(self):
        """Take back that the last end was told; NothingDone() if there is none."""
        if not self._told:
            raise NothingDone()
        self._told.pop()

    def twin(self):
        """Return a Survey equal to this one that shares nothing with it."""
        other = Survey(self._kinds)
        other._told = list(self._told)
        return other


def is_known(told, one, other):
    """Tell whether the end of the QUEUE (one, other) was told or follows from what was told."""
    # Who is let by the one whom they would let ahead lets them not.
    return ((one, other), STAYED) in told or ((one, other), TURNED) in told or ((other, one), TURNED) in told


def surveyed(kinds, asker):
    """Return the PAIRS of the hidden Book, whose ends asker returns; BadAnswer(answer) for what is no end."""
    survey = Survey(kinds)
    queue = survey.ask
    while queue is not None:
        survey.tell(asker(queue))
        queue = survey.ask
    return survey.pairs
