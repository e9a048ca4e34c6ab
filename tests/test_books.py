"""Tests of letahead.books: [2], [3], [4]."""

import unittest
from itertools import permutations, product

from checks import Checks, all_pairs, rows
from letahead import books
from letahead.books import (
    Book, against_handed_on, handed_on, is_handed_on, is_pairs, lets, with_pair, without_pair,
)
from letahead.errors import BadPair, BadText

SMALL = all_pairs("abc") + all_pairs("abcd")


def wanted_against(pairs):
    """The least triple by trying all of them, or None."""
    kinds = sorted({kind for pair in pairs for kind in pair})
    for one, mid, last in product(kinds, repeat=3):
        if (one, mid) in pairs and (mid, last) in pairs and (one, last) not in pairs:
            return one, mid, last
    return None


def wanted_is_pairs(thing):
    """Whether thing is PAIRS, word by word."""
    def is_kind(part):
        return isinstance(part, str) and 1 <= len(part) <= 8 and set(part) <= set("abcdefghijklmnopqrstuvwxyz")

    if not isinstance(thing, tuple):
        return False
    for pair in thing:
        if not isinstance(pair, tuple) or len(pair) != 2 or not is_kind(pair[0]) or not is_kind(pair[1]):
            return False
    ascends = all(thing[at] < thing[at + 1] for at in range(len(thing) - 1))
    return ascends and all(pair[::-1] not in thing for pair in thing)


class ExamplesTest(Checks):
    def test_book(self):
        book = Book((("b", "c"), ("a", "b"), ("b", "c")))
        self.same(
            (book.pairs, book.kinds, book.text, len(book), ("a", "b") in book, ("b", "a") in book,
             Book.of("a b; b c") == book, Book().text),
            ((("a", "b"), ("b", "c")), ("a", "b", "c"), "a b; b c", 2, True, False, True, "-"))
        self.same(
            (lets(book, "a", "b"), lets(book, "b", "a"), lets(book, "a", "z"), is_handed_on(book),
             against_handed_on(book), handed_on(book).text),
            (True, False, False, False, ("a", "b", "c"), "a b; a c; b c"))
        self.same(
            (handed_on(Book.of("a b; b c; c a")), is_handed_on(Book()), against_handed_on(Book.of("a c; b c")),
             with_pair(book, "a", "c").text, without_pair(book, "a", "b").text,
             without_pair(book, "a", "c") == book),
            (None, True, None, "a b; a c; b c", "b c", True))
        self.refused(BadPair, {"place": 2}, with_pair, book, "c", "b")

    def test_pairs(self):
        self.same(
            (is_pairs((("a", "b"), ("b", "c"))), is_pairs((("b", "c"), ("a", "b"))),
             is_pairs((("a", "b"), ("b", "a"))), is_pairs(())),
            (True, False, False, True))
        self.refused(BadPair, {"place": 1}, Book, (("a", "b"), ("c", "c")))

    def test_what_stands_here_is_defined_here(self):
        self.defined_in(books, [
            "Book", "is_pairs", "lets", "against_handed_on", "is_handed_on", "handed_on", "with_pair", "without_pair",
        ])
        for name in ("of", "pairs", "kinds", "text", "__len__", "__contains__", "__eq__"):
            self.assertIn(name, vars(Book))


class BookTest(Checks):
    def test_no_pairs(self):
        for book in (Book(), Book(()), Book([]), Book(pairs=()), Book.of("-"), Book.of(text="-")):
            self.same((book.pairs, book.kinds, book.text, len(book)), ((), (), "-", 0))
            self.same((("a", "b") in book, book == Book(), book == Book((("a", "b"),))), (False, True, False))

    def test_pairs_come_in_any_order_and_count_once(self):
        pairs = (("a", "c"), ("a", "b"), ("c", "b"))
        for row in list(permutations(pairs)) + list(permutations(pairs + pairs[:1])):
            book = Book(row)
            self.same(
                (book.pairs, book.kinds, book.text, len(book)),
                ((("a", "b"), ("a", "c"), ("c", "b")), ("a", "b", "c"), "a b; a c; c b", 3))

    def test_kinds_are_ascending_each_once(self):
        self.same(Book((("z", "b"), ("b", "a"), ("y", "z"))).kinds, ("a", "b", "y", "z"))
        self.same(Book((("abcdefgh", "b"), ("a", "aa"))).kinds, ("a", "aa", "abcdefgh", "b"))

    def test_eight_kinds(self):
        pairs = tuple((one, other) for one in "abcdefgh" for other in "abcdefgh" if one < other)
        book = Book(pairs[::-1])
        self.same((book.pairs, len(book), book.kinds), (pairs, 28, tuple("abcdefgh")))
        self.same((is_handed_on(book), handed_on(book) == book), (True, True))

    def test_bad_pairs(self):
        for pairs, place in (
            ((("a", "a"),), 0),
            ((("a", "b"), ("b", "a")), 1),
            ((("b", "a"), ("a", "b")), 1),
            ((("a", "b"), ("a", "b"), ("b", "a")), 2),
            ((("a", "b"), ("c", "d"), ("b", "a"), ("d", "d")), 2),
            ((("a", "b"), ("d", "d"), ("b", "a")), 1),
            ((("z", "y"), ("a", "b"), ("y", "z"), ("b", "a")), 2),
            ((("a", "b"), ("b", "c"), ("c", "a"), ("abcdefgh", "abcdefgh")), 3),
        ):
            self.refused(BadPair, {"place": place}, Book, pairs)
            self.refused(BadPair, {"place": place}, Book, [list(pair) for pair in pairs])
            self.refused(BadPair, {"place": place}, Book, pairs=pairs)

    def test_lists_for_tuples(self):
        wanted = (("a", "b"), ("b", "c"))
        for pairs in ([["b", "c"], ["a", "b"]], (["b", "c"], ("a", "b")), [("b", "c"), ("a", "b"), ["a", "b"]]):
            self.same(Book(pairs).pairs, wanted)
            self.same(Book(pairs=pairs).pairs, wanted)

    def test_what_is_given_is_copied_and_not_changed(self):
        pairs = [["b", "c"], ["a", "b"]]
        book = Book(pairs)
        self.same(pairs, [["b", "c"], ["a", "b"]])
        pairs[0][0] = "x"
        pairs.append(["y", "z"])
        self.same((book.pairs, book.kinds, book.text), ((("a", "b"), ("b", "c")), ("a", "b", "c"), "a b; b c"))
        pairs = [("a", "b"), ("b", "c")]
        book = Book(pairs)
        pairs.pop()
        self.same(book.pairs, (("a", "b"), ("b", "c")))

    def test_of(self):
        self.same(Book.of("a b; c a").pairs, (("a", "b"), ("c", "a")))
        for text, piece in (("", 0), ("a b; b a", 1), ("a b; a b", 1), ("b c; a b", 1), ("a a", 0), ("a b; ", 1),
                            ("a b;  b c", 1), ("a", 0), ("a abcdefghi", 0), ("A b", 0), ("- ", 0), ("\n", 0)):
            self.refused(BadText, {"piece": piece}, Book.of, text)
        for pairs in SMALL:
            self.same(Book.of(Book(pairs).text).pairs, pairs)

    def test_properties_have_no_setters(self):
        book = Book.of("a b")
        for name in ("pairs", "kinds", "text"):
            with self.assertRaises(AttributeError):
                setattr(book, name, getattr(book, name))
        self.same(book.text, "a b")

    def test_no_iteration(self):
        for book in (Book(), Book.of("a b; b c")):
            for call in (iter, list, tuple, sorted, set, lambda box: [pair for pair in box]):
                with self.assertRaises(TypeError):
                    call(book)

    def test_in(self):
        book = Book.of("a b; b c")
        for pair, wanted in ((("a", "b"), True), (("b", "c"), True), (("a", "c"), False), (("b", "a"), False),
                             (("c", "b"), False), (("a", "a"), False), (("x", "y"), False)):
            self.same((pair in book, list(pair) in book, pair not in book), (wanted, wanted, not wanted))

    def test_equal(self):
        for one, other in product(all_pairs("abc"), repeat=2):
            same = one == other
            self.same((Book(one) == Book(other[::-1]), Book(one) != Book(other)), (same, not same))

    def test_equal_to_nothing_else(self):
        book = Book.of("a b")
        for thing in (None, True, 1, "a b", (("a", "b"),), [("a", "b")], book.pairs, {("a", "b"): True}):
            self.same((book == thing, thing == book, book != thing), (False, False, True))
        for thing in (None, False, 0, "-", (), []):
            self.same((Book() == thing, Book() != thing), (False, True))


class PairsTest(Checks):
    def test_no_pairs(self):
        self.same((is_pairs(()), is_pairs([]), is_pairs(((),)), is_pairs(thing=())), (True, False, False, True))

    def test_all_short_things(self):
        pool = [
            ("a", "b"), ("b", "a"), ("a", "c"), ("c", "a"), ("b", "c"), ("a", "a"), ["a", "b"], ("a",), ("a", "b", "c"),
            ("a", 1), (1, "a"), (None, "a"), ("a", True), "ab", None, True, 0, (), [], ("A", "b"), ("a", ""), ("", "b"),
            ("abcdefgh", "b"), ("abcdefghi", "b"), ("a", "abcdefghi"), (("a",), "b"), (("a", "b"), ("b", "c")),
            ("a", "\u00e4"), ("a b", "c"), ("a", "b\n"), ("1", "2"), 10 ** 40, -1, False,
        ]
        for thing in rows(pool, 2) + rows(pool[:8], 4):
            self.same((thing, is_pairs(thing)), (thing, wanted_is_pairs(thing)))
            self.same((thing, is_pairs(list(thing))), (thing, False))

    def test_things_of_all_kinds(self):
        for thing in (None, True, False, 0, 1, -7, 10 ** 400, "", "-", "a b", "ab", "a b; b c", [], [("a", "b")],
                      [["a", "b"]], ("a", "b"), ("ab", "bc"), (("a", "b"), None), (("a", "b"), ["b", "c"])):
            self.same((thing, is_pairs(thing)), (thing, False))

    def test_deep_things(self):
        for inner in ((), [], "a", 7, ("a", "b")):
            for wrap in (lambda part: (part,), lambda part: [part], lambda part: ("a", part), lambda part: (part, part)):
                thing = inner
                for _ in range(12):
                    thing = wrap(thing)
                    self.assertIs(is_pairs(thing), wanted_is_pairs(thing))

    def test_long_things(self):
        words = [first + second for first in "abcdefghijklmnopqrst" for second in "abcdefghijklmnopqrst"]
        pairs = tuple((word, word + "x") for word in words)
        self.assertIs(is_pairs(pairs), True)
        self.assertIs(is_pairs(pairs + (("z", "y"),)), True)
        self.assertIs(is_pairs(pairs + (("a", "b"),)), False)
        self.assertIs(is_pairs(pairs + pairs[-1:]), False)
        self.assertIs(is_pairs(pairs + ("z",)), False)
        self.assertIs(is_pairs(pairs + (("zz", "aa"), ("zz", "zz"))), False)
        self.assertIs(is_pairs((("aa", "zz"),) + pairs + (("zz", "aa"),)), False)
        self.assertIs(is_pairs(("a" * 10 ** 5, ["b"] * 10 ** 5)), False)

    def test_the_pairs_of_books(self):
        for pairs in SMALL:
            self.assertIs(is_pairs(pairs), True)
            self.assertIs(is_pairs(Book(pairs[::-1]).pairs), True)
            self.assertIs(is_pairs(pairs[::-1]), len(pairs) < 2)

    def test_the_thing_stays_as_it_is(self):
        thing = [["b", "c"], ["a", "b"]]
        is_pairs(thing)
        is_pairs((thing, "a"))
        self.same(thing, [["b", "c"], ["a", "b"]])


class LetsTest(Checks):
    def test_lets_just_the_pairs(self):
        for pairs in all_pairs("abc"):
            book = Book(pairs)
            for one, other in product("abcz", repeat=2):
                self.same(lets(book, one, other), (one, other) in pairs)

    def test_by_name(self):
        book = Book.of("abcdefgh a")
        self.same(lets(book=book, one="abcdefgh", other="a"), True)
        self.same(lets(other="abcdefgh", one="a", book=book), False)


class HandedOnTest(Checks):
    def test_against_all_triples(self):
        for pairs in SMALL:
            book, wanted = Book(pairs), wanted_against(pairs)
            self.same((pairs, against_handed_on(book)), (pairs, wanted))
            self.same((pairs, is_handed_on(book)), (pairs, wanted is None))

    def test_the_least_triple(self):
        for text, wanted in (
            ("b c; c d; d a", ("b", "c", "d")),
            ("a b; b d; b e; a d", ("a", "b", "e")),
            ("z y; a b; y a; b z", ("a", "b", "z")),
            ("a z; a c; z b; c d", ("a", "c", "d")),
            ("c a; a b; b c", ("a", "b", "c")),
        ):
            book = Book([tuple(words.split(" ")) for words in text.split("; ")])
            self.same(against_handed_on(book), wanted)
            self.same(is_handed_on(book), False)

    def test_the_least_book_above_among_all(self):
        for kinds in ("abc", "abcd"):
            choices = [set(pairs) for pairs in all_pairs(kinds)]
            closed = [pairs for pairs in choices if wanted_against(pairs) is None]
            for pairs in choices:
                above = [more for more in closed if pairs <= more]
                least = [more for more in above if all(more <= other for other in above)]
                book = handed_on(Book(sorted(pairs)))
                self.same(
                    (pairs, None if book is None else book.pairs),
                    (pairs, tuple(sorted(least[0])) if least else None))

    def test_long_ways(self):
        for names in ("abcdefgh", "hgfedcba", "badcfehg", "gaebhcfd"):
            book = Book(list(zip(names, names[1:])))
            wanted = sorted((names[at], names[to]) for at in range(8) for to in range(at + 1, 8))
            self.same(handed_on(book).pairs, tuple(wanted))
            self.same(handed_on(Book(list(book.pairs) + [(names[7], names[0])])), None)

    def test_handed_on_is_a_book_above(self):
        for pairs in all_pairs("abcd"):
            book = Book(pairs)
            above = handed_on(book)
            if above is not None:
                self.assertIsInstance(above, Book)
                self.same((is_handed_on(above), set(pairs) <= set(above.pairs)), (True, True))
                self.same(above == book, is_handed_on(book))
            self.same(book.pairs, pairs)

    def test_by_name(self):
        book = Book.of("a b; b c")
        self.same(
            (is_handed_on(book=book), against_handed_on(book=book), handed_on(book=book).text),
            (False, ("a", "b", "c"), "a b; a c; b c"))


class OtherBooksTest(Checks):
    def test_with_each_pair(self):
        for pairs in all_pairs("abc"):
            book = Book(pairs)
            for one, other in product("abcz", repeat=2):
                if one == other or (other, one) in pairs:
                    self.refused(BadPair, {"place": len(pairs)}, with_pair, book, one, other)
                else:
                    self.same(with_pair(book, one, other).pairs, tuple(sorted(set(pairs) | {(one, other)})))
                self.same(book.pairs, pairs)

    def test_without_each_pair(self):
        for pairs in all_pairs("abc"):
            book = Book(pairs)
            for one, other in product("abcz", repeat=2):
                self.same(without_pair(book, one, other).pairs, tuple(sorted(set(pairs) - {(one, other)})))
                self.same(book.pairs, pairs)

    def test_without_pair_leaves_the_other_way_about(self):
        book = Book.of("a b; b c")
        self.same((without_pair(book, "b", "a") == book, without_pair(book, "a", "a") == book), (True, True))

    def test_they_are_books(self):
        book = Book.of("a b")
        for other in (with_pair(book, "a", "c"), with_pair(book, "a", "b"), without_pair(book, "a", "b"),
                      without_pair(book, "x", "y")):
            self.assertIsInstance(other, Book)

    def test_by_name(self):
        book = Book.of("a b")
        self.same(with_pair(book=book, one="b", other="c").text, "a b; b c")
        self.same(without_pair(other="b", one="a", book=book).text, "-")
        self.refused(BadPair, {"place": 1}, with_pair, other="a", one="b", book=book)
        self.refused(BadPair, {"place": 0}, with_pair, Book(), "a", "a")


if __name__ == "__main__":
    unittest.main()
