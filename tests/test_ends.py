"""Tests of letahead.ends: [2], [3], [8] and (a) and (d) of [1]."""

import unittest
from itertools import combinations, product

from checks import Checks, all_pairs, rows
from letahead import ends
from letahead.books import Book
from letahead.ends import great_end, great_exchanges, most_exchanges, the_end
from letahead.errors import NotHandedOn
from walks import CASES, is_handed, pairs_of, reached, steps

ALL_OF_EIGHT = Book([(one, other) for one in "abcdefgh" for other in "abcdefgh" if one < other])
HANDED = [pairs for pairs in all_pairs("abc") if is_handed(pairs)]
MORE = [pairs_of(text) for text in ("ab ac ad bc bd cd", "ac ad bc bd", "ab cd", "ac bc ad bd cd", "ba ca da", "ab cb db")]


def end_of(pairs, queue):
    """The end, by one possible EXCHANGE behind another."""
    queue = list(queue)
    places = [True]
    while places:
        places = steps(pairs, queue, range(len(queue)))
        for at in places[:1]:
            queue[at:at + 2] = queue[at + 1], queue[at]
    return queue


def spelled(runs):
    """The QUEUE that RUNS tell."""
    return [kind for kind, many in runs for _ in range(many)]


def runs_of(queue):
    """The RUNS of a QUEUE of which no two neighbours have one KIND."""
    found = []
    for kind in queue:
        if found and found[-1][0] == kind:
            found[-1][1] += 1
        else:
            found.append([kind, 1])
    return tuple((kind, many) for kind, many in found)


def exchanges_of(pairs, queue):
    """How many EXCHANGES there are until the end, counted as they come."""
    queue, many = list(queue), 0
    while steps(pairs, queue, range(len(queue))):
        at = steps(pairs, queue, range(len(queue)))[-1]
        queue[at:at + 2] = queue[at + 1], queue[at]
        many += 1
    return many


def small_runs(kinds, lengths, most):
    """RUNS of at most so many pairs, each with one of the KINDS and one of the lengths."""
    return rows([(kind, many) for kind in kinds for many in lengths], most)


class ExamplesTest(Checks):
    def test_ends(self):
        book = Book((("a", "b"), ("a", "c"), ("b", "c")))
        self.same(
            (the_end(book, ("a", "b", "c", "a")), the_end(book, ("a", "x", "c")), most_exchanges(book, ("a", "b", "c")),
             the_end(book, ())),
            ((2, 1, 0, 3), (0, 1, 2), 3, ()))
        runs = (("a", 10), ("b", 3), ("a", 2), ("c", 1))
        self.same((great_end(book, runs), great_exchanges(book, runs)), ((("c", 1), ("b", 3), ("a", 12)), 45))
        self.refused(NotHandedOn, {}, the_end, Book((("a", "b"), ("b", "c"))), ())

    def test_what_stands_here_is_defined_here(self):
        self.defined_in(ends, ["the_end", "most_exchanges", "great_end", "great_exchanges"])


class TheEndTest(Checks):
    def test_the_one_end_among_all_orders(self):
        for pairs, queue, found in CASES:
            if is_handed(pairs):
                self.same([the_end(Book(pairs), queue)], [order for order in found if not steps(pairs, queue, order)])

    def test_each_course_has_so_many_exchanges_and_none_more(self):
        for pairs, queue, found in CASES:
            if is_handed(pairs):
                many = most_exchanges(Book(pairs), queue)
                self.same({len(course) for course in found[the_end(Book(pairs), queue)]}, {many})
                self.same(max(len(course) for ways in found.values() for course in ways), many)

    def test_six_persons(self):
        for pairs in MORE:
            for queue in ("abcdab", "ddccba", "abcabc", "adbcad", "zabzcd"):
                wanted = [order for order in reached(pairs, queue) if not steps(pairs, queue, order)]
                self.same([the_end(Book(pairs), tuple(queue))], wanted)
                self.same(most_exchanges(Book(pairs), tuple(queue)), exchanges_of(pairs, queue))

    def test_ten_persons(self):
        self.same(the_end(ALL_OF_EIGHT, tuple("habahghbea")), (0, 4, 6, 5, 8, 2, 7, 1, 3, 9))
        self.same((the_end(ALL_OF_EIGHT, tuple("aabcdefghh")), most_exchanges(ALL_OF_EIGHT, tuple("aabcdefghh"))),
                  ((8, 9, 7, 6, 5, 4, 3, 2, 0, 1), 43))

    def test_nobody_and_one_person_and_one_kind_and_no_pairs(self):
        for book, queue in ((Book.of("a b"), ()), (Book.of("a b"), ("a",)), (Book.of("a b"), ("b",) * 10),
                            (Book(), ()), (Book(), tuple("abcdefghij"))):
            self.same((the_end(book, queue), most_exchanges(book, queue)), (tuple(range(len(queue))), 0))

    def test_each_way(self):
        book, queue = Book.of("a b; a c; b c"), ("a", "b", "c", "a")
        self.same_each_way((2, 1, 0, 3), the_end, book=book, queue=queue)
        self.same_each_way(3, most_exchanges, book=book, queue=queue)


class GreatTest(Checks):
    def test_small_runs_written_out(self):
        for pairs in HANDED:
            for runs in small_runs("abc", (1, 2), 3):
                queue = spelled(runs)
                self.same(great_end(Book(pairs), runs), runs_of(end_of(pairs, queue)))
                self.same(great_exchanges(Book(pairs), runs), exchanges_of(pairs, queue))

    def test_more_runs_written_out(self):
        for pairs in MORE:
            for kinds in ("abcda", "aabbc", "abxcd", "dcbad", "acbdacbdac"):
                runs = tuple((kind, at % 3 + 1) for at, kind in enumerate(kinds))
                queue = spelled(runs)
                self.same(great_end(Book(pairs), runs), runs_of(end_of(pairs, queue)))
                self.same(great_exchanges(Book(pairs), runs), exchanges_of(pairs, queue))

    def test_great_numbers(self):
        great = 10 ** 30
        book = Book.of("a b; a c; b c")
        self.same((great_end(book, (("a", great), ("b", great))), great_exchanges(book, (("a", great), ("b", great)))),
                  ((("b", great), ("a", great)), 10 ** 60))
        runs = (("a", great), ("b", great - 1), ("a", 7), ("c", 3), ("b", great - 2), ("a", great))
        self.same(great_end(book, runs), (("c", 3), ("b", 2 * great - 3), ("a", 2 * great + 7)))
        self.same(great_exchanges(book, runs),
                  great * (great - 1) + 3 * (great + great - 1 + 7) + (great - 2) * (great + 7))

    def test_ten_great_runs(self):
        great = 10 ** 30
        runs = tuple((kind, great + at) for at, kind in enumerate("abcdefghab"))
        wanted = sum(runs[one][1] * runs[other][1] for one, other in combinations(range(10), 2)
                     if runs[one][0] < runs[other][0])
        self.same(great_exchanges(ALL_OF_EIGHT, runs), wanted)
        self.same(great_end(ALL_OF_EIGHT, runs), (
            ("h", great + 7), ("g", great + 6), ("f", great + 5), ("e", great + 4), ("d", great + 3), ("c", great + 2),
            ("b", 2 * great + 10), ("a", 2 * great + 8)))
        # Who has come ahead of everybody else does not come past one of their own KIND.
        runs = (("h", great),) + tuple((kind, great) for kind in "ahahahaha")
        self.same((great_end(ALL_OF_EIGHT, runs), great_exchanges(ALL_OF_EIGHT, runs)),
                  ((("h", 5 * great), ("a", 5 * great)), 10 * great * great))

    def test_who_stands_between(self):
        book, great = Book.of("a b; a c; b c"), 10 ** 20
        self.same(great_end(book, (("a", 4), ("x", 1), ("c", great))), (("a", 4), ("x", 1), ("c", great)))
        self.same(great_exchanges(book, (("a", 4), ("x", 1), ("c", great))), 0)
        self.same(great_end(book, (("a", 2), ("c", 1), ("x", 1), ("b", 5), ("a", 1), ("b", great))),
                  (("c", 1), ("a", 2), ("x", 1), ("b", 5 + great), ("a", 1)))
        self.same(great_exchanges(book, (("a", 2), ("c", 1), ("x", 1), ("b", 5), ("a", 1), ("b", great))), 2 + great)

    def test_one_kind_in_neighbouring_runs(self):
        book, great = Book.of("a b"), 10 ** 30
        for runs, wanted, many in (
            ((("a", 2), ("a", 3)), (("a", 5),), 0),
            ((("a", great), ("a", great), ("a", great)), (("a", 3 * great),), 0),
            ((("b", 2), ("b", 3), ("a", 1)), (("b", 5), ("a", 1)), 0),
            ((("a", 2), ("a", 3), ("b", 4), ("b", 5)), (("b", 9), ("a", 5)), 45),
            ((("a", 1), ("b", 1), ("b", 1), ("a", 1)), (("b", 2), ("a", 2)), 2),
        ):
            self.same((great_end(book, runs), great_exchanges(book, runs)), (wanted, many))

    def test_no_runs_and_one(self):
        for book in (Book(), Book.of("a b"), ALL_OF_EIGHT):
            self.same((great_end(book, ()), great_exchanges(book, ())), ((), 0))
            for kind, many in product(("a", "z"), (1, 10 ** 30)):
                self.same((great_end(book, ((kind, many),)), great_exchanges(book, ((kind, many),))), (((kind, many),), 0))

    def test_no_pairs(self):
        runs = (("a", 3), ("b", 10 ** 30), ("a", 1), ("a", 2))
        self.same((great_end(Book(), runs), great_exchanges(Book(), runs)), ((("a", 3), ("b", 10 ** 30), ("a", 3)), 0))

    def test_what_comes_out_may_go_in_again(self):
        book = Book.of("a b; a c; b c")
        end = great_end(book, (("a", 10 ** 30), ("c", 1), ("a", 10 ** 30), ("b", 2)))
        self.same((great_end(book, end), great_exchanges(book, end)), (end, 0))

    def test_each_way(self):
        book, runs = Book.of("a b; a c; b c"), (("a", 10), ("b", 3), ("a", 2), ("c", 1))
        self.same_each_way((("c", 1), ("b", 3), ("a", 12)), great_end, book=book, runs=runs)
        self.same_each_way(45, great_exchanges, book=book, runs=runs)


class NotHandedOnTest(Checks):
    def test_ahead_of_all_else(self):
        for pairs in all_pairs("abc"):
            if not is_handed(pairs):
                book = Book(pairs)
                for queue in ((), ("a",), ("z", "z"), ("a", "b", "c")):
                    runs = tuple((kind, 1) for kind in queue)
                    for call in (the_end, most_exchanges):
                        self.refused_each_way(NotHandedOn, {}, call, book=book, queue=queue)
                    for call in (great_end, great_exchanges):
                        self.refused_each_way(NotHandedOn, {}, call, book=book, runs=runs)


if __name__ == "__main__":
    unittest.main()
