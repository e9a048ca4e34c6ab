"""Tests of letahead.changes: [2], [3], [12] and (d) of [1]."""

import unittest
from itertools import product

from checks import Checks, numbers_from
from letahead import changes
from letahead.books import Book
from letahead.changes import Watch
from letahead.errors import NoPlace, NothingDone

FIRSTS = [("a b; b c", ()), ("a b; b c", ("a",)), ("a b; a c; b c", ("a", "b", "c")), ("a b; b c", ("a", "b", "a", "c")),
          ("-", ("a", "b")), ("a c; b a", ("b", "a", "z"))]
DEEDS = [("exchange", 0), ("exchange", 1), ("exchange", -1), ("join", "c"), ("join", "a"), ("leave", 0), ("leave", 2),
         ("back",)]


class Rows:
    """What a Watch has to tell, kept by the test itself: the rows (number, kind) as they stand."""

    def __init__(self, pairs, queue):
        self.pairs, self.rows, self.next, self.past = pairs, list(enumerate(queue)), len(queue), []

    def queue(self):
        return tuple(kind for _, kind in self.rows)

    def turned(self):
        numbers = [number for number, _ in self.rows]
        return tuple(sorted((low, high) for at, high in enumerate(numbers) for low in numbers[at + 1:] if low < high))

    def allows(self, name, what=None):
        """Whether this deed is possible now."""
        many = len(self.rows)
        if name == "exchange":
            return 0 <= what < many - 1 and (self.rows[what][1], self.rows[what + 1][1]) in self.pairs
        if name == "leave":
            return 0 <= what < many
        return name == "join" or self.past != []

    def do(self, name, what=None):
        """Do a deed that is possible."""
        if name == "back":
            self.rows, self.next = self.past.pop()
            return
        self.past.append((list(self.rows), self.next))
        if name == "exchange":
            self.rows[what:what + 2] = self.rows[what + 1], self.rows[what]
        elif name == "leave":
            del self.rows[what]
        else:
            self.rows.append((self.next, what))
            self.next += 1


class WatchChecks(Checks):
    def looks(self, watch, rows):
        """All that the Watch tells is what the rows tell."""
        self.same(
            (watch.book.pairs, watch.queue, watch.persons, watch.turned, len(watch)),
            (rows.pairs, rows.queue(), tuple(number for number, _ in rows.rows), rows.turned(), len(rows.past)))
        kinds = dict(rows.rows)
        for low, high in watch.turned:
            self.assertIn((kinds[low], kinds[high]), rows.pairs)

    def does(self, watch, rows, name, *what):
        """The Watch does the deed as the rows do it, or refuses it and changes nothing."""
        if rows.allows(name, *what):
            rows.do(name, *what)
            self.same(getattr(watch, name)(*what), None if name == "back" else rows.queue())
        elif name == "back":
            self.refused(NothingDone, {}, watch.back)
        else:
            self.refused(NoPlace, {"number": what[0]}, getattr(watch, name), *what)
        self.looks(watch, rows)


class ExamplesTest(Checks):
    def test_watch(self):
        watch = Watch(Book((("x", "y"), ("y", "z"))), ("x", "y"))
        self.same(
            (watch.exchange(0), watch.join("z"), watch.turned, watch.persons, watch.leave(1), watch.exchange(0),
             watch.persons, watch.turned, len(watch)),
            (("y", "x"), ("y", "x", "z"), ((0, 1),), (1, 0, 2), ("y", "z"), ("z", "y"), (2, 1), ((1, 2),), 4))
        mate = watch.twin()
        self.same(
            (mate == watch, mate.back(), mate == watch, mate.queue, watch.queue, mate.back(), mate.back(), mate.back(),
             mate.queue),
            (True, None, False, ("y", "z"), ("z", "y"), None, None, None, ("x", "y")))
        self.refused(NothingDone, {}, mate.back)
        self.refused(NoPlace, {"number": 0}, watch.exchange, 0)

    def test_what_stands_here_is_defined_here(self):
        self.defined_in(changes, ["Watch"])
        for name in ("__init__", "book", "queue", "persons", "turned", "exchange", "join", "leave", "back", "twin",
                     "__len__", "__eq__"):
            self.assertIn(name, vars(Watch))


class DeedsTest(WatchChecks):
    def test_all_short_rows_of_deeds(self):
        for text, queue in FIRSTS:
            for deeds in product(DEEDS, repeat=3):
                watch = Watch(Book.of(text), queue)
                rows = Rows(watch.book.pairs, queue)
                self.looks(watch, rows)
                for deed in deeds:
                    self.does(watch, rows, *deed)

    def test_long_rows_of_deeds(self):
        luck = numbers_from(12)
        for text, queue in FIRSTS:
            watch = Watch(Book.of(text), queue)
            rows = Rows(watch.book.pairs, queue)
            for _ in range(400):
                name = ("exchange", "exchange", "join", "leave", "back")[next(luck) % 5]
                if name == "back":
                    self.does(watch, rows, name)
                elif name != "join":
                    self.does(watch, rows, name, next(luck) % 11)
                elif len(rows.rows) < 10 and rows.next < 40:
                    self.does(watch, rows, name, "abcz"[next(luck) % 4])
            while rows.past:
                self.does(watch, rows, "back")
            self.does(watch, rows, "back")
            self.same((watch.queue, watch.persons), (queue, tuple(range(len(queue)))))

    def test_each_place(self):
        queue = tuple("abcabcabca")
        for text, place in product(("a b; b c", "a b; a c; b c", "-"), (*range(-3, 13), 10 ** 30, -10 ** 30)):
            for name in ("exchange", "leave"):
                watch = Watch(Book.of(text), queue)
                self.does(watch, Rows(watch.book.pairs, queue), name, place)

    def test_nobody_and_one_person(self):
        for queue in ((), ("a",)):
            for place in (-1, 0, 1):
                watch = Watch(Book.of("a b"), queue)
                self.looks(watch, Rows((("a", "b"),), queue))
                self.does(watch, Rows((("a", "b"),), queue), "exchange", place)
                self.does(watch, Rows((("a", "b"),), queue), "leave", place)
        watch = Watch(Book(), ())
        self.same((watch.join("a"), watch.persons, watch.leave(0), watch.persons, watch.join("b"), watch.persons),
                  (("a",), (0,), (), (), ("b",), (1,)))

    def test_who_joined_and_is_taken_back_has_not_come(self):
        watch = Watch(Book.of("a b"), ("a",))
        watch.join("b")
        watch.back()
        self.same((watch.join("c"), watch.persons), (("a", "c"), (0, 1)))
        watch.leave(1)
        self.same((watch.join("b"), watch.persons), (("a", "b"), (0, 2)))
        watch.back()
        watch.back()
        self.same((watch.queue, watch.persons, len(watch)), (("a", "c"), (0, 1), 1))
        self.same((watch.join("d"), watch.persons, watch.book.text), (("a", "c", "d"), (0, 1, 2), "a b"))

    def test_forty_persons_ever(self):
        watch = Watch(Book.of("a b"), tuple("abababaaba"))
        rows = Rows((("a", "b"),), tuple("abababaaba"))
        for number in range(30):
            self.does(watch, rows, "exchange", number % 9)
            self.does(watch, rows, "leave", number * 7 % 10)
            self.does(watch, rows, "join", "ab"[number // 2 % 2])
        self.same((max(watch.persons), len(watch.queue)), (39, 10))
        while rows.past:
            self.does(watch, rows, "back")

    def test_by_name(self):
        watch = Watch(queue=["a", "b"], book=Book.of("a b"))
        self.same((watch.exchange(place=0), watch.join(kind="a"), watch.leave(place=0)),
                  (("b", "a"), ("b", "a", "a"), ("a", "a")))
        self.refused(NoPlace, {"number": 1}, watch.exchange, place=1)
        self.refused(NoPlace, {"number": 2}, watch.leave, place=2)


class ObjectTest(WatchChecks):
    def test_what_is_given_is_copied_and_not_changed(self):
        queue = ["a", "b", "c"]
        watch = Watch(Book.of("a b; a c"), queue)
        watch.exchange(0)
        self.same(queue, ["a", "b", "c"])
        queue[2] = "z"
        queue.append("y")
        self.same((watch.queue, watch.persons, watch.book.text), (("b", "a", "c"), (1, 0, 2), "a b; a c"))
        self.same(watch.exchange(1), ("b", "c", "a"))

    def test_what_was_returned_stays_as_it_is(self):
        watch = Watch(Book.of("a b"), ("a", "b"))
        told = watch.queue, watch.persons, watch.turned
        before = repr(told)
        watch.exchange(0)
        watch.leave(0)
        self.same(repr(told), before)

    def test_equal_by_book_and_queue_and_persons(self):
        def made(text, queue, *deeds):
            watch = Watch(Book.of(text), tuple(queue))
            for name, *what in deeds:
                getattr(watch, name)(*what)
            return watch

        groups = [
            [made("a b", "ab"), made("a b", ["a", "b"], ("join", "c"), ("back",)), made("a b", ("a", "b"), ("join", "a"), ("leave", 2)),
             made("a b", "ab", ("exchange", 0), ("back",)), made("a b", "a", ("join", "b"))],
            [made("a b", "ab", ("exchange", 0))],
            [made("a b", "ba")],
            [made("a c", "ab")],
            [made("a b", "aab", ("leave", 0))],
            [made("a b", "aab", ("leave", 0), ("exchange", 0))],
            [made("a b", "abb", ("leave", 1))],
            [made("a b", "ac")],
            [made("a b", "abc", ("leave", 2), ("leave", 1)), made("a b", "a"), made("a b", "aa", ("leave", 1))],
            [made("a b", ()), made("a b", "ab", ("leave", 0), ("leave", 0))],
        ]
        for at, to in product(range(len(groups)), repeat=2):
            for one, other in product(groups[at], groups[to]):
                self.same((one == other, one != other), (at == to, at != to))

    def test_equal_to_nothing_else(self):
        watch = Watch(Book.of("a b"), ("a", "b"))
        for thing in (None, True, 0, "ab", ("a", "b"), (0, 1), [], Book.of("a b"), watch.book, (watch.book, ("a", "b"), (0, 1))):
            self.same((watch == thing, thing == watch, watch != thing), (False, False, True))

    def test_properties_have_no_setters(self):
        watch = Watch(Book.of("a b"), ("a", "b"))
        for name in ("book", "queue", "persons", "turned"):
            with self.assertRaises(AttributeError):
                setattr(watch, name, getattr(watch, name))
        self.looks(watch, Rows((("a", "b"),), ("a", "b")))

    def test_no_iteration(self):
        for watch in (Watch(Book(), ()), Watch(Book.of("a b"), ("a", "b"))):
            for call in (iter, list, tuple, sorted, set, lambda box: [part for part in box]):
                with self.assertRaises(TypeError):
                    call(watch)

    def test_a_twin_shares_nothing(self):
        for text, queue in FIRSTS:
            for deeds in product(DEEDS, repeat=2):
                for turned in (False, True):
                    first = Watch(Book.of(text), queue)
                    rows, more = Rows(first.book.pairs, queue), Rows(first.book.pairs, queue)
                    for box in (rows, more):
                        box.do("join", "b")
                    first.join("b")
                    second = first.twin()
                    self.same((first == second, second == first, first != second), (True, True, False))
                    self.assertIsInstance(second, Watch)
                    one, other = (second, first) if turned else (first, second)
                    for deed in deeds:
                        self.does(one, rows, *deed)
                        self.looks(other, more)
                    self.does(other, more, "back")
                    self.looks(one, rows)
                    self.does(other, more, "join", "a")
                    self.looks(one, rows)
                    while rows.past:
                        self.does(one, rows, "back")
                    self.looks(other, more)


if __name__ == "__main__":
    unittest.main()
