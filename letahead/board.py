"""A board: Books by their NAMEs beside one QUEUE, and deeds that can be undone."""

from letahead.books import with_pair, without_pair
from letahead.changes import without_place
from letahead.ends import the_end
from letahead.errors import Known, NoBook, NothingDone
from letahead.orders import against


class Board:
    """Books, each with a NAME, and one QUEUE."""

    def __init__(self):
        # Each deed puts another dict here, so those that are kept for undo stay as they were.
        self._books = {}
        self._queue = ()
        # What _books and _queue were ahead of each deed.
        self._past = []

    @property
    def names(self):
        """The ascending tuple of the NAMEs."""
        return tuple(sorted(self._books))

    @property
    def queue(self):
        """The QUEUE."""
        return self._queue

    @property
    def deeds(self):
        """How many deeds can be undone now."""
        return len(self._past)

    def __len__(self):
        return len(self._books)

    def __contains__(self, name):
        return name in self._books

    def __getitem__(self, name):
        if name not in self._books:
            raise NoBook(name)
        return self._books[name]

    def __iter__(self):
        raise TypeError("a Board is not iterable")

    def __eq__(self, other):
        return isinstance(other, Board) and self._queue == other._queue and self._books == other._books

    def put(self, name, book):
        """Have this Book, too; Known(name) if the NAME is there already."""
        if name in self._books:
            raise Known(name)
        self._keep(name, book)

    def drop(self, name):
        """Have the Book no more; NoBook(name)."""
        if name not in self._books:
            raise NoBook(name)
        books = dict(self._books)
        del books[name]
        self._go_on(books, self._queue)

    def allow(self, name, one, other):
        """Have this pair in the Book, too; NoBook(name), then BadPair(place) if the Book can not have it."""
        self._keep(name, with_pair(self[name], one, other))

    def forbid(self, name, one, other):
        """Have this pair in the Book no more; NoBook(name)."""
        self._keep(name, without_pair(self[name], one, other))

    def join(self, kind):
        """Let one person of this KIND stand behind all others."""
        self._go_on(self._books, self._queue + (kind,))

    def leave(self, place):
        """Let the person at this place go away; NoPlace(number) if nobody stands there."""
        self._go_on(self._books, without_place(self._queue, place))

    def undo(self):
        """Undo the last deed; NothingDone() if there is none."""
        if not self._past:
            raise NothingDone()
        self._books, self._queue = self._past.pop()

    def twin(self):
        """Return an equal Board without deeds to undo, which shares nothing with this one."""
        other = Board()
        other._books = dict(self._books)
        other._queue = self._queue
        return other

    def can_come(self, name, order):
        """Tell whether, by the Book, the ORDER of the QUEUE can come about; NoBook(name)."""
        return against(self[name], self._queue, order) is None

    def end_of(self, name):
        """Return the ORDER that is the end of the QUEUE by the Book; NoBook(name), then NotHandedOn()."""
        return the_end(self[name], self._queue)

    def _keep(self, name, book):
        """Do the deed behind which the NAME has this Book."""
        books = dict(self._books)
        books[name] = book
        self._go_on(books, self._queue)

    def _go_on(self, books, queue):
        """Do the deed behind which there are these Books and this QUEUE."""
        self._past.append((self._books, self._queue))
        self._books = books
        self._queue = queue
