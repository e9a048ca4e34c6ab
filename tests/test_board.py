"""Tests of letahead.board: [2], [3], [15] and (a), (b) and (d) of [1]."""

import unittest
from itertools import product

from checks import Checks, lists, numbers_from
from letahead import board as module
from letahead.board import Board
from letahead.books import Book
from letahead.errors import BadPair, Known, NoBook, NoPlace, NotHandedOn, NothingDone
from walks import is_handed, orders_of, pairs_of, reached, steps

KIND, HARD = pairs_of("ab bc"), ()
# Of each kind of deed some that can be done and some that can not, some that change nothing.
DEEDS = [
    ("put", "kind", KIND), ("put", "soft", pairs_of("ca")), ("drop", "kind"), ("drop", "hard"), ("allow", "kind", "a", "c"),
    ("allow", "kind", "b", "a"), ("allow", "hard", "a", "b"), ("forbid", "kind", "a", "b"), ("forbid", "hard", "b", "a"),
    ("join", "c"), ("leave", 1), ("leave", 3), ("undo",),
]


class Rows:
    """What a Board has to tell, kept by the test itself."""

    def __init__(self):
        self.books, self.queue, self.past = {}, [], []

    def error(self, deed, *what):
        """The error of this deed, with its values; None if it can be done now."""
        name = what[0] if what else None
        if deed == "undo":
            return None if self.past else (NothingDone, {})
        if deed == "put":
            return (Known, {"name": name}) if name in self.books else None
        if deed == "leave":
            return None if 0 <= name < len(self.queue) else (NoPlace, {"number": name})
        if deed != "join" and name not in self.books:
            return NoBook, {"name": name}
        if deed == "allow" and (what[1] == what[2] or (what[2], what[1]) in self.books[name]):
            return BadPair, {"place": len(self.books[name])}
        return None

    def do(self, deed, *what):
        """Do a deed that can be done."""
        if deed == "undo":
            self.books, self.queue = self.past.pop()
            return
        self.past.append((dict(self.books), list(self.queue)))
        name = what[0]
        if deed == "put":
            self.books[name] = what[1]
        elif deed == "drop":
            del self.books[name]
        elif deed == "allow":
            self.books[name] = tuple(sorted({*self.books[name], what[1:]}))
        elif deed == "forbid":
            self.books[name] = tuple(pair for pair in self.books[name] if pair != what[1:])
        elif deed == "join":
            self.queue.append(name)
        else:
            del self.queue[name]


class BoardChecks(Checks):
    def looks(self, board, rows):
        """All that the Board tells is what the rows tell."""
        self.same((board.names, board.queue, board.deeds, len(board)),
                  (tuple(sorted(rows.books)), tuple(rows.queue), len(rows.past), len(rows.books)))
        for name in ("kind", "hard", "soft", "z"):
            self.assertIs(name in board, name in rows.books)
            if name in rows.books:
                self.assertIsInstance(board[name], Book)
                self.same(board[name].pairs, rows.books[name])
            else:
                self.refused(NoBook, {"name": name}, lambda: board[name])

    def walks(self, board, rows):
        """The Board tells of the QUEUE what all COURSES tell."""
        queue = tuple(rows.queue)
        for name, pairs in rows.books.items():
            found = reached(pairs, queue)
            self.same([board.can_come(name, order) for order in orders_of(queue)],
                      [order in found for order in orders_of(queue)])
            if is_handed(pairs):
                self.same([board.end_of(name)], [order for order in found if not steps(pairs, queue, order)])
            else:
                self.refused(NotHandedOn, {}, board.end_of, name)

    def does(self, board, rows, deed, *what):
        """The Board does the deed as the rows do it, or refuses it and changes nothing."""
        given = (what[0], Book(what[1])) if deed == "put" else what
        error = rows.error(deed, *what)
        if error is None:
            rows.do(deed, *what)
            self.assertIsNone(getattr(board, deed)(*given))
        else:
            self.refused(*error, getattr(board, deed), *given)
        self.looks(board, rows)


def made():
    """A Board with two Books and three persons, without deeds to undo, and its rows."""
    board, rows = Board(), Rows()
    for deed, *what in (("put", "kind", KIND), ("put", "hard", HARD), ("join", "a"), ("join", "b"), ("join", "c")):
        rows.do(deed, *what)
        getattr(board, deed)(*((what[0], Book(what[1])) if deed == "put" else what))
    rows.past = []
    return board.twin(), rows


class ExamplesTest(Checks):
    def test_board(self):
        board = Board()
        self.same(
            (board.put("kind", Book.of("a b; b c")), board.put("hard", Book()), board.join("a"), board.join("b"),
             board.join("c"), board.queue, board.names, board.deeds, len(board)),
            (None, None, None, None, None, ("a", "b", "c"), ("hard", "kind"), 5, 2))
        self.same(
            (board.can_come("kind", (1, 0, 2)), board.can_come("kind", (2, 1, 0)), board.can_come("hard", (1, 0, 2)),
             board.end_of("hard"), board.allow("kind", "a", "c"), board.end_of("kind"), board["kind"].text),
            (True, False, False, (0, 1, 2), None, (2, 1, 0), "a b; a c; b c"))
        copy = board.twin()
        self.same(
            (board.leave(1), board.queue, board.end_of("kind"), board.forbid("kind", "a", "c"), board.end_of("hard"),
             copy == board, copy.deeds, copy.queue),
            (None, ("a", "c"), (1, 0), None, (0, 1), False, 0, ("a", "b", "c")))
        self.same(
            (board.undo(), board.undo(), copy == board, board.drop("hard"), board.names, board.undo(), board.deeds),
            (None, None, True, None, ("kind",), None, 6))
        self.refused(NoPlace, {"number": 3}, board.leave, 3)
        self.refused(Known, {"name": "kind"}, board.put, "kind", Book())
        self.refused(BadPair, {"place": 3}, board.allow, "kind", "c", "a")
        self.refused(NoBook, {"name": "soft"}, board.end_of, "soft")

    def test_what_stands_here_is_defined_here(self):
        self.defined_in(module, ["Board"])
        for name in ("__init__", "names", "queue", "deeds", "put", "drop", "allow", "forbid", "join", "leave", "undo",
                     "twin", "can_come", "end_of", "__len__", "__contains__", "__getitem__", "__eq__"):
            self.assertIn(name, vars(Board))


class DeedsTest(BoardChecks):
    def test_at_first(self):
        board = Board()
        self.looks(board, Rows())
        self.refused(NothingDone, {}, board.undo)
        self.refused(NoPlace, {"number": 0}, board.leave, 0)
        self.looks(board, Rows())

    def test_all_short_rows_of_deeds(self):
        for deeds in product(DEEDS, repeat=3):
            board, rows = made()
            for deed in deeds:
                self.does(board, rows, *deed)
            while rows.past:
                self.does(board, rows, "undo")
            self.does(board, rows, "undo")
            self.same(board == made()[0], True)

    def test_what_can_come_behind_each_two_deeds(self):
        for deeds in product(DEEDS, repeat=2):
            board, rows = made()
            for deed in deeds:
                self.does(board, rows, *deed)
                self.walks(board, rows)

    def test_long_rows_of_deeds(self):
        luck = numbers_from(3)
        for _ in range(12):
            board, rows = Board(), Rows()
            while len(rows.past) < 60:
                deed = ("put", "drop", "allow", "allow", "allow", "forbid", "join", "join", "leave", "undo")[next(luck) % 10]
                name, one, other = ("kind", "hard", "soft")[next(luck) % 3], "abcd"[next(luck) % 4], "abcd"[next(luck) % 4]
                what = {
                    "put": (name, pairs_of("ab ac cb")), "drop": (name,), "allow": (name, one, other),
                    "forbid": (name, one, other), "join": (one,), "leave": (next(luck) % 6,), "undo": (),
                }[deed]
                if deed != "join" or len(rows.queue) < 5:
                    self.does(board, rows, deed, *what)
                if next(luck) % 20 == 0:
                    self.walks(board, rows)
            while rows.past:
                self.does(board, rows, "undo")
            self.does(board, rows, "undo")

    def test_each_place(self):
        for place in (*range(-4, 6), 10 ** 30, -10 ** 30):
            board, rows = made()
            self.does(board, rows, "leave", place)
            self.walks(board, rows)

    def test_a_deed_that_changes_nothing_is_a_deed(self):
        for deed in (("allow", "kind", "a", "b"), ("forbid", "kind", "b", "a"), ("forbid", "hard", "x", "y"),
                     ("forbid", "kind", "a", "a")):
            board, rows = made()
            self.does(board, rows, *deed)
            self.same((board.deeds, board == made()[0]), (1, True))
            self.does(board, rows, "join", "z")
            self.does(board, rows, "undo")
            self.does(board, rows, "undo")
            self.does(board, rows, "undo")

    def test_errors_in_their_order(self):
        board, rows = made()
        for deed in (("allow", "z", "a", "a"), ("allow", "z", "b", "a"), ("allow", "kind", "c", "b"),
                     ("allow", "kind", "q", "q"), ("allow", "hard", "q", "q"), ("forbid", "z", "a", "b"), ("drop", "z"),
                     ("put", "hard", KIND), ("put", "kind", KIND), ("leave", 3), ("leave", -1), ("undo",)):
            self.assertIsNotNone(rows.error(*deed))
            self.does(board, rows, *deed)
        self.refused(NoBook, {"name": "z"}, board.can_come, "z", (0, 1, 2))
        self.refused(NoBook, {"name": "z"}, board.end_of, "z")
        self.refused(NotHandedOn, {}, board.end_of, "kind")
        self.looks(board, rows)

    def test_not_handed_on_with_nobody_there(self):
        board = Board()
        board.put("kind", Book(KIND))
        self.refused(NotHandedOn, {}, board.end_of, "kind")
        self.same(board.can_come("kind", ()), True)
        board.forbid("kind", "b", "c")
        self.same(board.end_of("kind"), ())

    def test_twelve_books_and_ten_persons(self):
        board, rows = Board(), Rows()
        for at in range(12):
            self.does(board, rows, "put", "book" + "abcdefghijkl"[at], KIND)
        for kind in "abcdefghab":
            self.does(board, rows, "join", kind)
        kinds = "abcdefgh"
        for one, other in ((one, other) for one in kinds for other in kinds if one < other):
            self.does(board, rows, "allow", "booka", one, other)
        self.same((len(board), board.deeds, board.end_of("booka")), (12, 50, (7, 6, 5, 4, 3, 2, 1, 9, 0, 8)))
        self.same((board.can_come("booka", (7, 6, 5, 4, 3, 2, 1, 9, 0, 8)), board.can_come("booka", (9, *range(9)))),
                  (True, False))
        while rows.past:
            self.does(board, rows, "undo")
        self.same(board == Board(), True)

    def test_by_name_and_with_lists(self):
        board = Board()
        for call, given in ((board.put, {"name": "kind", "book": Book.of("a b; b c")}), (board.join, {"kind": "a"}),
                            (board.join, {"kind": "b"}), (board.allow, {"name": "kind", "one": "a", "other": "c"}),
                            (board.put, {"book": Book(), "name": "hard"}), (board.join, {"kind": "c"}),
                            (board.forbid, {"other": "c", "name": "hard", "one": "b"}), (board.leave, {"place": 2}),
                            (board.drop, {"name": "hard"})):
            self.assertIsNone(call(**given))
        self.same((board.queue, board["kind"].text, board.names), (("a", "b"), "a b; a c; b c", ("kind",)))
        for order, wanted in (((1, 0), True), ((0, 1), True)):
            self.same_each_way(wanted, board.can_come, name="kind", order=order)
        self.same_each_way((1, 0), board.end_of, name="kind")
        board.forbid("kind", "a", "b")
        self.same_each_way(False, board.can_come, name="kind", order=(1, 0))
        order = lists((1, 0))
        board.can_come("kind", order)
        self.same(order, [1, 0])


class ObjectTest(BoardChecks):
    def test_equal_by_queue_and_names_and_books(self):
        def of(*deeds):
            board = Board()
            for deed, *what in deeds:
                getattr(board, deed)(*what)
            return board

        book, more = Book.of("a b"), Book.of("a b; b c")
        groups = [
            [of(), of(("join", "a"), ("leave", 0)), of(("put", "x", book), ("drop", "x")), of(("join", "a"), ("undo",))],
            [of(("put", "x", book)), of(("put", "x", Book()), ("allow", "x", "a", "b")), of(("put", "x", book)).twin()],
            [of(("put", "y", book))],
            [of(("put", "x", more)), of(("put", "x", book), ("allow", "x", "b", "c"))],
            [of(("put", "x", book), ("put", "y", more)), of(("put", "y", more), ("put", "x", book))],
            [of(("put", "x", more), ("put", "y", book))],
            [of(("put", "x", book), ("join", "a"))],
            [of(("join", "a")), of(("join", "b"), ("join", "a"), ("leave", 0))],
            [of(("join", "a"), ("join", "b")), of(("join", "a"), ("join", "b")).twin()],
            [of(("join", "b"), ("join", "a"))],
        ]
        for at, to in product(range(len(groups)), repeat=2):
            for one, other in product(groups[at], groups[to]):
                self.same((one == other, one != other), (at == to, at != to))

    def test_equal_to_nothing_else(self):
        for board in (Board(), made()[0]):
            for thing in (None, True, 0, (), {}, [], "a", Book(), board.queue, board.names, {"kind": Book(KIND)}):
                self.same((board == thing, thing == board, board != thing), (False, False, True))

    def test_properties_have_no_setters(self):
        board, rows = made()
        for name in ("names", "queue", "deeds"):
            with self.assertRaises(AttributeError):
                setattr(board, name, getattr(board, name))
        self.looks(board, rows)

    def test_no_iteration(self):
        for board in (Board(), made()[0]):
            for call in (iter, list, tuple, sorted, set, dict, lambda box: [part for part in box]):
                with self.assertRaises(TypeError):
                    call(board)

    def test_what_was_returned_stays_as_it_is(self):
        board, _ = made()
        book, told = board["kind"], (board.names, board.queue, board.deeds)
        before = repr(told)
        for deed, *what in (("allow", "kind", "a", "c"), ("drop", "kind"), ("join", "z"), ("leave", 0)):
            getattr(board, deed)(*what)
        self.same((repr(told), book.pairs), (before, KIND))

    def test_a_book_that_was_put_stays_as_it_is(self):
        board, book = Board(), Book(KIND)
        board.put("kind", book)
        board.put("more", book)
        board.allow("kind", "a", "c")
        board.forbid("more", "a", "b")
        self.same((book.pairs, board["kind"].text, board["more"].text), (KIND, "a b; a c; b c", "b c"))

    def test_a_twin_shares_nothing(self):
        for deeds in product(DEEDS, repeat=2):
            for turned in (False, True):
                board, rows = made()
                self.does(board, rows, "join", "b")
                twin, more = board.twin(), Rows()
                more.books, more.queue = dict(rows.books), list(rows.queue)
                self.assertIsInstance(twin, Board)
                self.looks(twin, more)
                self.same((twin == board, board == twin, twin != board), (True, True, False))
                (one, of_one), (other, of_other) = ((twin, more), (board, rows))[::-1 if turned else 1]
                for deed in deeds:
                    self.does(one, of_one, *deed)
                    self.looks(other, of_other)
                self.does(other, of_other, "allow", "hard", "a", "c")
                self.does(other, of_other, "leave", 0)
                self.looks(one, of_one)
                self.does(other, of_other, "undo")
                self.does(one, of_one, "undo")
                self.looks(other, of_other)


if __name__ == "__main__":
    unittest.main()
