"""Tests of letahead.alike: [2], [3], [9] and (d) of [1]."""

import unittest
from itertools import combinations, product

from checks import Checks, all_pairs, rows
from letahead import alike as module
from letahead.alike import alike, common, either, is_queue_against, lets_more, queue_against
from letahead.books import Book
from walks import nested, pairs_of, reached

BOOKS = all_pairs("abc")
QUEUES = rows("abcz", 3)
# What can come about by each small Book: all pairs (QUEUE, ORDER).
COMING = {pairs: {(queue, order) for queue in QUEUES for order in reached(pairs, queue)} for pairs in BOOKS}
EIGHT = "abcdefgh"
ALL_OF_EIGHT = tuple((one, other) for one in EIGHT for other in EIGHT if one < other)
WIDE = [pairs_of(text) for text in ("ab bc cd", "ab ac ad bc bd cd", "ab bc ca", "ac ad bc bd", "ad ba cb dc", "ab cd", "")]

# Not one tuple of NAMEs among them.
NO_QUEUES = [
    None, True, False, 0, 1, -1, 10 ** 400, "", "a", "ab", "a b", "()", [], ["a"], ["a", "b"], [()], ("a", 1), (1, "b"),
    ("a", None), ("a", True), ("a", ""), ("", "b"), ("a", "B"), ("A", "b"), ("a", "b "), ("a", "abcdefghi"), ("a b",),
    ("a", "\u00e4"), ("a", "b\n"), ("a", "1"), ("a", ("b",)), (("a", "b"),), ("a", ["b"]), (["a", "b"],), ((),), ("a", "-"),
    ("a", "b", ()), ("a",) * 1000 + (0,), ["a"] * 10 ** 5, "a" * 10 ** 5, (0, 1), nested(("a", "b"), 11), nested("a", 12),
]


def chain_leads(pairs, queue, one, other):
    """Whether a chain leads from one to other, by trying each choice of persons between them."""
    for many in range(other - one):
        for between in combinations(range(one + 1, other), many):
            chain = (one, *between, other)
            if all((queue[last], queue[person]) not in pairs for last, person in zip(chain, chain[1:])):
                return True
    return False


def shows(one, other, queue):
    """Whether by the PAIRS other somebody can pass somebody who does not let them by the PAIRS one."""
    return any(
        (queue[p], queue[q]) in other and (queue[p], queue[q]) not in one and not chain_leads(other, queue, p, q)
        for p, q in combinations(range(len(queue)), 2)
    )


class ExamplesTest(Checks):
    def setUp(self):
        self.one, self.other, self.back = Book((("x", "y"), ("x", "z"))), Book((("x", "y"), ("y", "z"))), Book((("y", "x"),))

    def test_queues(self):
        one, other = self.one, self.other
        self.same(
            (lets_more(one, other), lets_more(one, Book((("x", "z"),))), alike(one, other),
             is_queue_against(one, other, queue_against(one, other)), is_queue_against(one, other, ("y", "x", "z")),
             is_queue_against(one, other, ("x", "y")), queue_against(one, one)),
            (False, True, False, True, False, False, None))

    def test_books(self):
        one, other, back = self.one, self.other, self.back
        self.same(
            (common(one, other).pairs, either(one, other).pairs, either(one, back), common(one, back).pairs,
             is_queue_against(one, other, ("z", "y", "z"))),
            ((("x", "y"),), (("x", "y"), ("x", "z"), ("y", "z")), None, (), True))

    def test_what_stands_here_is_defined_here(self):
        self.defined_in(module, ["lets_more", "queue_against", "is_queue_against", "alike", "common", "either"])


class MoreTest(Checks):
    def test_by_the_orders_that_can_come_about(self):
        for one, other in product(BOOKS, repeat=2):
            self.same((lets_more(Book(one), Book(other)), alike(Book(one), Book(other))),
                      (COMING[other] <= COMING[one], COMING[other] == COMING[one]))

    def test_exactly_if_the_pairs_are_there(self):
        for one, other in product(BOOKS + WIDE, repeat=2):
            self.same((lets_more(Book(one), Book(other)), alike(Book(one), Book(other))),
                      (set(other) <= set(one), one == other))

    def test_equal_books_and_no_pairs(self):
        for pairs in BOOKS + WIDE + [ALL_OF_EIGHT]:
            book = Book(pairs)
            self.same((lets_more(book, Book(pairs[::-1])), alike(book, Book(pairs[::-1])), lets_more(book, Book())),
                      (True, True, True))
            self.same((lets_more(Book(), book), alike(Book(), book)), (pairs == (), pairs == ()))

    def test_eight_kinds(self):
        for left_out in ALL_OF_EIGHT:
            less = Book([pair for pair in ALL_OF_EIGHT if pair != left_out])
            self.same((lets_more(Book(ALL_OF_EIGHT), less), lets_more(less, Book(ALL_OF_EIGHT))), (True, False))
            self.same((alike(Book(ALL_OF_EIGHT), less), queue_against(Book(ALL_OF_EIGHT), less)), (False, None))
            self.assertTrue(shows(less.pairs, ALL_OF_EIGHT, queue_against(less, Book(ALL_OF_EIGHT))))

    def test_each_way(self):
        one, other = Book.of("a b; a c"), Book.of("a b")
        for call, there, back in ((lets_more, True, False), (alike, False, False)):
            self.same_each_way(there, call, one=one, other=other)
            self.same_each_way(back, call, one=other, other=one)


class QueueAgainstTest(Checks):
    def test_one_of_the_queues_exactly_if_there_is_one(self):
        for one, other in product(BOOKS, repeat=2):
            queue = queue_against(Book(one), Book(other))
            if COMING[other] <= COMING[one]:
                self.assertIsNone(queue)
            else:
                self.assertIsInstance(queue, tuple)
                self.assertTrue(set(reached(other, queue)) - set(reached(one, queue)))
                self.assertIs(is_queue_against(Book(one), Book(other), queue), True)
                self.same(queue_against(Book(one[::-1]), Book(other[::-1])), queue)

    def test_just_the_queues_that_show_more(self):
        for one, other in product(BOOKS, repeat=2):
            more = {queue for queue, order in COMING[other] - COMING[one]}
            self.same([is_queue_against(Book(one), Book(other), queue) for queue in QUEUES],
                      [queue in more for queue in QUEUES])

    def test_five_persons(self):
        for queue in ("abcda", "dcbad", "abzcd", "aabbc", "badcb", "adbca", "cabda", "bbaad", "zabcd"):
            coming = [set(reached(pairs, queue)) for pairs in WIDE]
            for at, to in product(range(len(WIDE)), repeat=2):
                self.same(is_queue_against(Book(WIDE[at]), Book(WIDE[to]), tuple(queue)), not coming[to] <= coming[at])

    def test_ten_persons_by_chains(self):
        for queue in ("abcdabcdab", "ddccbbaabb", "azbzczdaba", "bacbdacbda", "aaaabbbbcd", "cdabdcabcd"):
            for one, other in product(WIDE, repeat=2):
                self.same(is_queue_against(Book(one), Book(other), tuple(queue)), shows(one, other, queue))

    def test_who_stands_between(self):
        one, other = Book.of("a b"), Book.of("a b; a c; b c")
        for queue, wanted in (("ac", True), ("bc", True), ("abc", True), ("azc", False), ("acb", True), ("zac", True),
                              ("azbzc", False), ("azazac", True), ("acz", True), ("cab", False), ("ca", False),
                              ("aac", True), ("zzz", False), ("ab", False), ("a", False), ("", False)):
            self.same((queue, is_queue_against(one, other, tuple(queue))), (queue, wanted))
        # By other a lets c, but b, who stands between, lets not and is not let.
        for queue, wanted in (("abc", False), ("bac", True), ("acb", True), ("abac", True), ("abcb", False)):
            self.same(is_queue_against(Book.of("a b; b c"), Book.of("a c"), tuple(queue)), wanted)

    def test_long_queues(self):
        one, other, great = Book.of("a b; b c"), Book.of("a b; a c; b c"), 10 ** 5
        for queue, wanted in (
            (("a",) * great, False),
            (("c",) * great + ("a",) * great, False),
            (("a",) * great + ("c",), True),
            (("a",) + ("b",) * great + ("c",), True),
            (("a", "z") * great + ("c",), False),
            (("a", "z") * great + ("a", "c"), True),
            (("b", "a", "b") * great, False),
            (("a", "z") + ("c", "b") * great, False),
            (tuple(first + second + third for first in EIGHT for second in EIGHT for third in EIGHT) * 100, False),
        ):
            self.assertIs(is_queue_against(one, other, queue), wanted)
        self.assertIs(is_queue_against(Book(), Book(ALL_OF_EIGHT), tuple(EIGHT[::-1]) * great), True)
        for all_of_them in (tuple(EIGHT[::-1]), ("z", *EIGHT, "z")):
            self.assertIs(is_queue_against(Book(ALL_OF_EIGHT), Book(ALL_OF_EIGHT), all_of_them * 10 ** 4), False)

    def test_things_of_all_kinds(self):
        one, other = Book(), Book.of("a b")
        for thing in NO_QUEUES:
            self.assertIs(is_queue_against(one, other, thing), False)
            self.assertIs(is_queue_against(other, one, thing), False)
        self.assertIs(is_queue_against(one, other, ("a", "b")), True)
        self.assertIs(is_queue_against(one, other, ("abcdefgh", "a", "b")), True)

    def test_equal_books_and_no_pairs(self):
        for pairs in BOOKS + [ALL_OF_EIGHT]:
            book = Book(pairs)
            self.same((queue_against(book, Book(pairs[::-1])), queue_against(book, Book())), (None, None))
            for queue in ((), ("a",), ("a", "b"), tuple("abcabcabca"), tuple("hgfedcba")):
                self.same((is_queue_against(book, Book(pairs), queue), is_queue_against(book, Book(), queue)),
                          (False, False))

    def test_each_way(self):
        one, other = Book.of("a b"), Book.of("a b; b c")
        self.same_each_way(queue_against(one, other), queue_against, one=one, other=other)
        self.same_each_way(None, queue_against, one=other, other=one)
        self.same_each_way(True, is_queue_against, one=one, other=other, thing=("b", "c"))
        self.same_each_way(False, is_queue_against, one=one, other=other, thing=["b", "c"])
        self.same_each_way(False, is_queue_against, one=other, other=one, thing=("b", "c"))


class BothTest(Checks):
    def test_common_by_the_orders_that_can_come_about(self):
        for one, other in product(BOOKS, repeat=2):
            book = common(Book(one), Book(other))
            self.assertIsInstance(book, Book)
            self.assertTrue(COMING[book.pairs] == COMING[one] & COMING[other], (one, other))

    def test_either_by_the_orders_that_can_come_about(self):
        for one, other in product(BOOKS, repeat=2):
            above = [pairs for pairs in BOOKS if COMING[one] | COMING[other] <= COMING[pairs]]
            fewest = [pairs for pairs in above if len(pairs) == min(len(pairs) for pairs in above)]
            book = either(Book(one), Book(other))
            self.same([book.pairs] if book is not None else [], fewest)

    def test_none_exactly_if_both_ways(self):
        for one, other in product(BOOKS + WIDE, repeat=2):
            both_ways = any(pair[::-1] in other for pair in one)
            self.same(either(Book(one), Book(other)) is None, both_ways)
            self.same(common(Book(one), Book(other)).pairs, tuple(pair for pair in one if pair in other))
            if not both_ways:
                self.same(either(Book(one), Book(other)).pairs, tuple(sorted(set(one) | set(other))))

    def test_one_with_all_pairs_of_the_other(self):
        for pairs in BOOKS + [ALL_OF_EIGHT]:
            book = Book(pairs)
            for less in (book, Book(pairs[1:]), Book(pairs[:1]), Book()):
                for one, other in ((book, less), (less, book)):
                    self.same((common(one, other).pairs, either(one, other).pairs), (less.pairs, pairs))

    def test_nothing_is_changed(self):
        one, other = Book.of("a b; b c"), Book.of("b c; c d")
        for call in (lets_more, alike, queue_against, common, either):
            call(one, other)
            self.same((one.text, other.text), ("a b; b c", "b c; c d"))

    def test_by_name(self):
        one, other = Book.of("a b; b c"), Book.of("b c; c d")
        self.same((common(one=one, other=other).text, common(other=one, one=other).text), ("b c", "b c"))
        self.same((either(one=one, other=other).text, either(other=one, one=other).text), ("a b; b c; c d",) * 2)
        self.same(either(other=Book.of("b a"), one=one), None)


if __name__ == "__main__":
    unittest.main()
