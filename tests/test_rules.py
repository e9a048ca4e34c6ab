"""Tests of letahead.rules: [2], [3], [11]."""

import unittest
from itertools import combinations, product

from checks import Checks, all_pairs, rows
from letahead import rules as module
from letahead.books import Book, is_handed_on
from letahead.rules import book_of, is_rules, is_sizes_for, lets_by, plain_rules, same_rules, sizes_for
from walks import NO_NUMBERS, nested, pairs_of

SMALL_RULES = [(least, most) for least in range(5) for most in range(least)]
# All sets of RULES of small numbers, as sorted tuples.
CHOICES = [row for many in range(len(SMALL_RULES) + 1) for row in combinations(SMALL_RULES, many)]
EIGHT = "abcdefgh"
ALL_OF_EIGHT = tuple((one, other) for one in EIGHT for other in EIGHT if one < other)
BOOKS = all_pairs("abc") + all_pairs("abcd")
# Of more KINDS: some that come by numbers, and some with two pairs, or three KINDS and a fourth one, that forbid it.
WIDER = [pairs_of(text) for text in (
    "ab ac ad ae bc bd be cd ce de", "ac ad ae bd be ce", "ad ae be", "ab cd ef", "ab ac bc de", "ae be ce de",
    "ea eb ec ed", "ab ac ad bc bd cd ez fz gz hz", "ac ad bc bd ef", "ac bc ad bd ae be ce", "ab bc ca", "ab bc cd de",
)] + [ALL_OF_EIGHT, ALL_OF_EIGHT[1:], ALL_OF_EIGHT[:1] + ALL_OF_EIGHT[2:], ALL_OF_EIGHT[:-1]]


def told(rules):
    """All that RULES of small numbers tell: who lets whom, of all numbers up to one more than theirs."""
    return {(mine, its) for mine in range(6) for its in range(6) for least, most in rules if mine >= least and its <= most}


def kinds_of(pairs):
    return sorted({kind for pair in pairs for kind in pair})


def comes(rules, sizes):
    """The PAIRS that come by RULES and SIZES."""
    return tuple(sorted(
        (one, other) for one, mine in sizes for other, its in sizes
        if any(mine >= least and its <= most for least, most in rules)))


def may_come(pairs):
    """Whether the two conditions hold by which a Book comes by some RULES and SIZES."""
    pairs = set(pairs)
    for (a, b), (c, d) in product(pairs, repeat=2):
        if (a, d) not in pairs and (c, b) not in pairs:
            return False
    for (a, b), (mid, c), d in product(pairs, pairs, kinds_of(pairs)):
        if mid == b and (a, d) not in pairs and (d, c) not in pairs:
            return False
    return True


def is_rule(thing):
    numbers = isinstance(thing, tuple) and len(thing) == 2 and all(type(part) is int for part in thing)
    return numbers and 0 <= thing[1] < thing[0]


def shows(pairs, thing):
    """Whether thing is a pair of RULES and SIZES of just the KINDS of these PAIRS by which they come."""
    rules, sizes = thing
    well = type(thing) is tuple and type(rules) is tuple and type(sizes) is tuple and all(map(is_rule, rules))
    well = well and all(type(part) is tuple and type(part[1]) is int and part[1] >= 0 for part in sizes)
    return well and [kind for kind, _ in sizes] == kinds_of(pairs) and comes(rules, sizes) == tuple(pairs)


class ExamplesTest(Checks):
    def test_rules(self):
        self.same(
            (lets_by(((8, 2),), 9, 2), lets_by(((8, 2),), 8, 2), lets_by(((8, 2),), 7, 2), lets_by(((8, 2),), 9, 3),
             lets_by((), 9, 0)),
            (True, True, False, False, False))
        self.same(
            (plain_rules(((8, 2), (8, 1), (9, 2), (5, 0), (8, 2))), same_rules(((8, 2), (9, 1)), ((8, 2),)),
             same_rules(((8, 2),), ((8, 2), (5, 0))), is_rules(((8, 2),)), is_rules(((2, 2),))),
            (((5, 0), (8, 2)), True, False, True, False))

    def test_sizes(self):
        sizes = (("big", 9), ("mid", 5), ("small", 1))
        self.same((book_of(((8, 2),), sizes).text, book_of(((8, 5), (4, 1)), sizes).text),
                  ("big small", "big mid; big small; mid small"))
        self.same(
            (sizes_for(Book.of("a b; b c")), sizes_for(Book.of("a b; c d")),
             is_sizes_for(Book.of("a c; b c"), sizes_for(Book.of("a c; b c"))),
             is_sizes_for(Book.of("a b"), (((1, 0),), (("a", 1), ("b", 0)))),
             is_sizes_for(Book.of("a b"), (((1, 0),), (("a", 1),)))),
            (None, None, True, True, False))

    def test_what_stands_here_is_defined_here(self):
        self.defined_in(module, [
            "is_rules", "lets_by", "plain_rules", "same_rules", "book_of", "sizes_for", "is_sizes_for",
        ])


class IsRulesTest(Checks):
    def test_short_things(self):
        pool = [
            (1, 0), (2, 0), (2, 1), (10 ** 30, 0), (10 ** 400, 10 ** 399), (0, 0), (0, 1), (2, 2), (1, -1), (-1, -2), (1,), (),
            (3, 2, 1), (True, 0), (1, False), (True, False), (None, 0), ("1", "0"), ("b", "a"), [1, 0], ((1, 0),), ((1,), 0),
            1, "10", None, True, 10 ** 40,
        ]
        for thing in rows(pool, 3):
            self.same(is_rules(thing), all(map(is_rule, thing)))
            self.assertIs(is_rules(list(thing)), False)

    def test_however_many(self):
        many = tuple((least + 1, least) for least in range(10 ** 5))
        for thing, wanted in ((many, True), (many[:9], True), (((1, 0),) * 10 ** 5, True), (many + ((0, 0),), False),
                              (many + ([1, 0],), False), (many + (None,), False), (list(many), False)):
            self.assertIs(is_rules(thing), wanted)

    def test_things_of_all_kinds(self):
        for thing in NO_NUMBERS + [(0,), (1, 0), (0, 1), (1, 0, 2), nested((1, 0), 2), nested((1, 0), 11), "1 0"]:
            self.assertIs(is_rules(thing), False)
        self.assertIs(is_rules(()), True)
        self.same_each_way(True, is_rules, thing=((1, 0), (1, 0)))
        self.same_each_way(False, is_rules, thing=[(1, 0)])


class LetsByTest(Checks):
    def test_all_small_numbers(self):
        for rules in CHOICES[::3]:
            known = told(rules)
            for mine, its in product(range(6), repeat=2):
                self.assertIs(lets_by(rules, mine, its), (mine, its) in known)

    def test_edges(self):
        great = 10 ** 30
        for rules, mine, its, wanted in (
            (((great, great - 1),), great, great - 1, True), (((great, great - 1),), great - 1, 0, False),
            (((great, great - 1),), great, great, False), (((1, 0),), 0, 0, False), (((1, 0),), 1, 0, True),
            (((9, 0), (5, 3), (7, 6)), 6, 4, False), (((9, 0), (5, 3), (7, 6)), 7, 4, True), ((), 0, 0, False),
            (((5, 3),) * 8, 5, 3, True),
        ):
            self.same_each_way(wanted, lets_by, rules=rules, mine=mine, its=its)

    def test_nobody_lets_both_ways_and_what_comes_is_handed_on(self):
        for rules in CHOICES[::5]:
            for one, other, third in product(range(6), repeat=3):
                there, on = lets_by(rules, one, other), lets_by(rules, other, third)
                self.assertFalse(there and lets_by(rules, other, one))
                self.assertTrue(lets_by(rules, one, third) or not (there and on))


class PlainTest(Checks):
    def test_the_fewest_that_tell_the_same(self):
        alike = {}
        for rules in CHOICES:
            alike.setdefault(frozenset(told(rules)), []).append(rules)
        for choices in alike.values():
            fewest = [rules for rules in choices if len(rules) == min(map(len, choices))]
            for rules in choices:
                self.same([plain_rules(rules)], fewest)
                self.assertLessEqual(set(fewest[0]), set(rules))

    def test_in_any_order_and_one_twice(self):
        for rules in [row for row in CHOICES if len(row) <= 3]:
            plain = plain_rules(rules)
            for other in (rules[::-1], rules + rules[:1], rules[-1:] + rules, rules * 2):
                self.same((plain_rules(other), same_rules(other, rules)), (plain, True))

    def test_no_rules_and_one(self):
        self.same((plain_rules(()), plain_rules(((1, 0),)), plain_rules(((1, 0),) * 8)), ((), ((1, 0),), ((1, 0),)))
        self.same((same_rules((), ()), same_rules((), ((1, 0),)), same_rules(((1, 0),), ())), (True, False, False))

    def test_eight_rules(self):
        steps = tuple((10 ** 30 - 7 + at, 3 * at) for at in range(8))
        self.same((plain_rules(steps[::-1]), same_rules(steps, steps[::-1])), (steps, True))
        self.same(same_rules(steps, steps[:-1]), False)
        self.same(plain_rules(tuple((9 - at, at) for at in range(5)) + ((9, 5),)), ((5, 4), (9, 5)))

    def test_same_rules_tell_the_same(self):
        few = [(rules, told(rules)) for rules in CHOICES if len(rules) <= 2]
        for (one, first), (other, second) in product(few, repeat=2):
            self.assertIs(same_rules(one, other), first == second)

    def test_each_way(self):
        rules = ((8, 2), (8, 1), (9, 2), (5, 0), (8, 2))
        self.same_each_way(((5, 0), (8, 2)), plain_rules, rules=rules)
        self.same_each_way(True, same_rules, one=rules, other=((5, 0), (8, 2)))
        self.same_each_way(False, same_rules, one=rules, other=((5, 0),))


class BookOfTest(Checks):
    def test_small_rules_and_sizes(self):
        for rules in [row for row in CHOICES if len(row) <= 2]:
            for numbers in rows(range(5), 3):
                sizes = tuple(zip("abc", numbers))
                book = book_of(rules, sizes)
                self.assertIsInstance(book, Book)
                self.same((book.pairs, is_handed_on(book)), (comes(rules, sizes), True))
                self.assertTrue(may_come(book.pairs))

    def test_no_rules_no_sizes_and_one_number_for_all(self):
        sizes = tuple((kind, 7) for kind in EIGHT)
        self.same([book_of(rules, kinds).pairs for rules, kinds in (
            ((), ()), ((), sizes), (((1, 0),), ()), (((8, 7), (7, 6), (1, 0)), sizes), (((1, 0),), sizes[:1]))], [()] * 5)

    def test_eight_kinds(self):
        sizes = tuple((kind, 10 ** 30 - at) for at, kind in enumerate(EIGHT))
        by_one = tuple((10 ** 30 - at, 10 ** 30 - at - 1) for at in range(7))
        self.same(book_of(by_one, sizes).pairs, ALL_OF_EIGHT)
        self.same(book_of(by_one[:1], sizes).pairs, tuple(("a", other) for other in EIGHT[1:]))
        self.same(book_of(by_one[6:], sizes).pairs, tuple((one, "h") for one in EIGHT[:7]))

    def test_by_position_and_by_name_and_with_lists(self):
        rules, sizes = ((8, 5), (4, 1)), (("big", 9), ("mid", 5), ("small", 1))
        for given in ((rules, sizes), ([[8, 5], [4, 1]], [["big", 9], ["mid", 5], ["small", 1]])):
            before = repr(given)
            self.same(book_of(*given).text, "big mid; big small; mid small")
            self.same(book_of(sizes=given[1], rules=given[0]).text, "big mid; big small; mid small")
            self.same(repr(given), before)


class SizesForTest(Checks):
    def test_exactly_if_the_conditions_hold(self):
        for pairs in BOOKS + WIDER:
            found = sizes_for(Book(pairs))
            if may_come(pairs):
                self.assertTrue(shows(pairs, found), (pairs, found))
                self.assertLessEqual(len(found[0]), 8)
                self.assertIs(is_sizes_for(Book(pairs), found), True)
                self.same(sizes_for(Book(pairs[::-1])), found)
            else:
                self.assertIsNone(found)

    def test_exactly_if_some_small_numbers_do(self):
        few = [rules for rules in CHOICES if len(rules) <= 3]
        for kinds in ("ab", "abc"):
            coming = {comes(rules, tuple(zip(kinds, numbers)))
                      for rules in few for numbers in product(range(4), repeat=len(kinds))}
            for pairs in all_pairs(kinds):
                if kinds_of(pairs) == list(kinds):
                    self.same(sizes_for(Book(pairs)) is not None, pairs in coming)

    def test_all_books_that_come_by_numbers(self):
        for step, rules in product(range(1, 12), [row for row in CHOICES if 1 <= len(row) <= 2]):
            sizes = [(kind, at * step % 7) for at, kind in enumerate("abcdefg")]
            book = book_of(rules, sizes)
            self.assertTrue(shows(book.pairs, sizes_for(book)))

    def test_no_pairs_and_one(self):
        self.same(sizes_for(Book()), ((), ()))
        rules, sizes = sizes_for(Book.of("b a"))
        self.assertTrue(shows((("b", "a"),), (rules, sizes)))

    def test_eight_kinds(self):
        self.assertTrue(shows(ALL_OF_EIGHT, sizes_for(Book(ALL_OF_EIGHT))))
        for away in ALL_OF_EIGHT:
            pairs = tuple(pair for pair in ALL_OF_EIGHT if pair != away)
            found = sizes_for(Book(pairs))
            self.assertTrue(shows(pairs, found) if may_come(pairs) else found is None)

    def test_by_name(self):
        self.same(sizes_for(book=Book.of("a b; b c")), None)
        self.same(sizes_for(book=Book.of("a b")), sizes_for(Book.of("a b")))


class IsSizesForTest(Checks):
    def test_small_numbers(self):
        few = [rules for rules in CHOICES if len(rules) <= 2]
        for kinds, books in (("", [()]), ("ab", all_pairs("ab")), ("abc", [pairs_of("ab ac"), pairs_of("ab ac bc"), ()])):
            for rules, numbers in product(few, product(range(3), repeat=len(kinds))):
                thing = (rules, tuple(zip(kinds, numbers)))
                for pairs in books:
                    self.assertIs(is_sizes_for(Book(pairs), thing), shows(pairs, thing))

    def test_bent_sizes(self):
        book, rules, great = Book.of("a b; c b"), ((2, 1),), 10 ** 400
        for sizes in ((("a", 2), ("b", 1), ("c", 3)), (("a", great), ("b", 0), ("c", 2))):
            self.assertIs(is_sizes_for(book, (rules, sizes)), True)
        for sizes in (
            (), (("a", 2), ("b", 1)), (("a", 2), ("b", 1), ("c", 3), ("d", 0)), (("a", 2), ("c", 3), ("b", 1)),
            (("a", 2), ("b", 1), ("b", 1), ("c", 3)), (("a", 2), ("a", 3), ("b", 1), ("c", 3)),
            (("a", 2), ("b", 2), ("c", 3)), (("a", 1), ("b", 1), ("c", 3)), (("a", 2), ("b", -1), ("c", 3)),
            (("a", 2), ("b", True), ("c", 3)), (("a", 2), ("b", False), ("c", 3)), (("a", 2), ("b", "1"), ("c", 3)),
            (("a", 2), ("b", None), ("c", 3)), (("a", 2), ("b", (1,)), ("c", 3)), (("a", 2), ("b",), ("c", 3)),
            (("a", 2), ("b", 1, 1), ("c", 3)), (("a", 2), ["b", 1], ("c", 3)), [("a", 2), ("b", 1), ("c", 3)],
            (("a", 2), ("B", 1), ("c", 3)), (("a", 2), ("", 1), ("c", 3)), (("a", 2), (1, "b"), ("c", 3)),
            (("a", 2), (("b",), 1), ("c", 3)), (("a", 2), None, ("c", 3)), (("a", 2), "b1", ("c", 3)),
            (("a", 2), ("b", 1), ("abcdefghi", 3)), (("a", 2), ("b", 1), ("d", 3)), "abc", None, 7, True, ("a", 2),
            (("a", 2), ("b", [1]), ("c", 3)), (("a", 2), (["b"], 1), ("c", 3)), ((), ("b", 1), ("c", 3)),
        ):
            self.same((sizes, is_sizes_for(book, (rules, sizes))), (sizes, False))

    def test_bent_rules(self):
        book, sizes = Book.of("a b"), (("a", 1), ("b", 0))
        for rules in (((1, 0),), ((1, 0),) * 3, ((9, 8), (1, 0)), ((1, 0),) * 10 ** 5, ((2, 1), (1, 0), (2, 0))):
            self.assertIs(is_sizes_for(book, (rules, sizes)), True)
        for rules in ((), ((2, 0),), ((1, 0), (0, 0)), ((1, 0), (1, -1)), ((1, 0), (0, 1)), ((1, 0), [1, 0]), [(1, 0)],
                      ((1, 0), None), ((1, 0), ()), ((1, 0), (1,)), ((1, 0), (1, 0, 0)), (1, 0), (True, False),
                      ((True, False),), ((1, False),), ((True, 0),), (("1", "0"),), None, 1, "10", "", [], [[1, 0]],
                      (((1, 0),),), ((1, 0), "ab")):
            self.same((rules, is_sizes_for(book, (rules, sizes))), (rules, False))

    def test_things_of_all_kinds(self):
        rules, sizes = ((1, 0),), (("a", 1), ("b", 0))
        for thing in NO_NUMBERS + [
            (), (rules,), (sizes,), (rules, sizes, ()), (sizes, rules), [rules, sizes], ((rules, sizes),), (rules, list(sizes)),
            (list(rules), sizes), (None, sizes), (rules, None), (0, 1), (1, 0), "ab", ("ab", "ab"), nested((rules, sizes), 9),
            (rules,) * 10 ** 5, (rules, sizes * 10 ** 5), rules, sizes,
        ]:
            self.assertIs(is_sizes_for(Book.of("a b"), thing), False)
        for thing in (None, (), [], ((),), ((), []), ([], ()), ((), (), ()), (((0, 0),), ()), ((), (("a", 0),)), ("", "")):
            self.assertIs(is_sizes_for(Book(), thing), False)
        for thing in (((), ()), (((1, 0),), ()), (((1, 0), (2, 0)), ())):
            self.assertIs(is_sizes_for(Book(), thing), True)

    def test_each_way(self):
        book, thing = Book.of("a b"), (((1, 0),), (("a", 1), ("b", 0)))
        self.same_each_way(True, is_sizes_for, book=book, thing=thing)
        self.same_each_way(False, is_sizes_for, book=book, thing=list(thing))
        self.same_each_way(False, is_sizes_for, book=book, thing=(thing[0], thing[1][:1]))


if __name__ == "__main__":
    unittest.main()
