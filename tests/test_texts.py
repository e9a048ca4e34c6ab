"""Tests of letahead.texts: [2], [3], [14]."""

import re
import unittest

from checks import Checks, all_pairs, rows
from letahead import texts
from letahead.errors import BadText
from letahead.texts import order_from, order_text, pairs_from, pairs_text, queue_from, queue_text

READERS = (pairs_from, queue_from, order_from)


def wanted_pairs(pieces):
    """The PAIRS of these pieces, or the number of the first wrong one."""
    found = []
    for number, piece in enumerate(pieces):
        pair = tuple(piece.split(" "))
        written = re.fullmatch("[a-z]{1,8} [a-z]{1,8}", piece)
        if not written or pair[0] == pair[1] or (found and pair <= found[-1]) or pair[::-1] in found:
            return number
        found.append(pair)
    return tuple(found)


def wanted_row(pieces, pattern, made, once):
    """What is made of these pieces, or the number of the first wrong one."""
    found = []
    for number, piece in enumerate(pieces):
        if not re.fullmatch(pattern, piece) or (once and made(piece) in found):
            return number
        found.append(made(piece))
    return tuple(found)


class ExamplesTest(Checks):
    def test_the_functions_are_defined_here(self):
        self.defined_in(texts, ["pairs_text", "queue_text", "order_text", "pairs_from", "queue_from", "order_from"])

    def test_examples(self):
        self.same(
            (pairs_text((("a", "b"), ("b", "c"))), pairs_text(()), queue_text(("a", "b", "b")), order_text((0, 2, 1))),
            ("a b; b c", "-", "a b b", "0 2 1"))
        self.same(
            (pairs_from("a b; b c"), pairs_from("-"), queue_from("a b b"), order_from("0 2 1"), order_from("-")),
            ((("a", "b"), ("b", "c")), (), ("a", "b", "b"), (0, 2, 1), ()))
        self.refused(BadText, {"piece": 1}, pairs_from, "a b; b a")
        self.refused(BadText, {"piece": 2}, order_from, "0 2 0")


class WritingTest(Checks):
    def test_pairs(self):
        self.same(pairs_text((("a", "b"),)), "a b")
        self.same(pairs_text((("abcdefgh", "z"), ("b", "a"), ("z", "bcdefghi"))), "abcdefgh z; b a; z bcdefghi")

    def test_queue(self):
        self.same(queue_text(()), "-")
        self.same(queue_text(("abcdefgh",)), "abcdefgh")
        self.same(queue_text(("b", "a", "b")), "b a b")

    def test_order(self):
        self.same(order_text(()), "-")
        self.same(order_text((0,)), "0")
        self.same(order_text((10, 0, 10 ** 30)), "10 0 1" + 30 * "0")

    def test_long_rows(self):
        words = [first + second for first in "abcdefghij" for second in "klmnopqrst"]
        pairs = tuple(sorted((word, word + "x") for word in words))
        self.same(pairs_text(pairs), "; ".join(" ".join(pair) for pair in pairs))
        self.same(queue_text(words * 20), " ".join(words * 20))
        self.same(order_text(tuple(range(2000, -1, -1))), " ".join(str(number) for number in range(2000, -1, -1)))

    def test_lists_for_tuples_and_names(self):
        for pairs in ([("a", "b"), ("b", "c")], [["a", "b"], ["b", "c"]], (["a", "b"], ("b", "c"))):
            self.same(pairs_text(pairs=pairs), "a b; b c")
        self.same((pairs_text([]), queue_text([]), order_text([])), ("-", "-", "-"))
        self.same((queue_text(queue=["b", "a"]), order_text(order=[1, 0])), ("b a", "1 0"))

    def test_arguments_stay_as_they_are(self):
        pairs, queue, order = [["a", "b"], ["b", "c"]], ["b", "a"], [2, 0, 1]
        pairs_text(pairs), queue_text(queue), order_text(order)
        self.same((pairs, queue, order), ([["a", "b"], ["b", "c"]], ["b", "a"], [2, 0, 1]))


class ReadingTest(Checks):
    def read(self, reader, text, wanted):
        """The reader returns the tuple that is wanted, or raises BadText with the number that is wanted."""
        if isinstance(wanted, tuple):
            self.same(reader(text), wanted)
        else:
            self.refused(BadText, {"piece": wanted}, reader, text)

    def test_by_name(self):
        self.same(pairs_from(text="a b"), (("a", "b"),))
        self.same(queue_from(text="a b"), ("a", "b"))
        self.same(order_from(text="1 0"), (1, 0))

    def test_nothing(self):
        for reader in READERS:
            self.read(reader, "-", ())
            self.read(reader, "", 0)
            for text in (" ", "; ", ";", "- ", " -", "--", "- -", "-; -", "0-", "\n", "-\n"):
                self.read(reader, text, 0)

    def test_all_short_texts_of_pairs(self):
        pool = ["a b", "b a", "a c", "b c", "c a", "a a", "", "a", "-", "a b c", "a  b", " a b", "a b ", "A b", "a b;"]
        for pieces in rows(pool, 3)[1:]:
            text = "; ".join(pieces)
            if text != "-":
                self.read(pairs_from, text, wanted_pairs(text.split("; ")))

    def test_all_short_texts_of_queues(self):
        pool = ["a", "b", "abcdefgh", "abcdefghi", "", "-", "A", "a1", "a;", "0", "a\t", "\u00e4"]
        for pieces in rows(pool, 3)[1:]:
            text = " ".join(pieces)
            if text != "-":
                self.read(queue_from, text, wanted_row(text.split(" "), "[a-z]{1,8}", str, False))

    def test_all_short_texts_of_orders(self):
        pool = ["0", "1", "2", "10", "00", "01", "", "-", "-1", "+1", "a", "1_0", "\u00b2", "\uff11", "1;", "1\n"]
        for pieces in rows(pool, 3)[1:]:
            text = " ".join(pieces)
            if text != "-":
                self.read(order_from, text, wanted_row(text.split(" "), "0|[1-9][0-9]*", int, True))

    def test_pieces_of_pairs_are_cut_at_semicolon_and_blank(self):
        for text, wrong in (
            ("a b;b c", 0), ("a b ; b c", 0), ("a b;  b c", 1), ("a b; ; b c", 1), ("a b; b c; ", 2),
            ("; a b", 0), ("a b;", 0), ("a b; b c;", 1), ("a b, b c", 0), ("a  b", 0), ("ab", 0), ("a\tb", 0),
            ("a b\n", 0), ("a b; b c\n", 1), ("a b;\nb c", 0), ("a b; -", 1), ("-; a b", 0),
        ):
            self.read(pairs_from, text, wrong)

    def test_pairs_ascend(self):
        self.read(pairs_from, "a b; a c; b c", (("a", "b"), ("a", "c"), ("b", "c")))
        self.read(pairs_from, "a b; aa b; ab b", (("a", "b"), ("aa", "b"), ("ab", "b")))
        for text, wrong in (
            ("a b; a b", 1), ("a b; b c; b c", 2), ("b c; a b", 1), ("a c; a b", 1), ("aa b; a b", 1),
            ("a b; c d; b c", 2), ("a c; b c; b a; x", 2),
        ):
            self.read(pairs_from, text, wrong)

    def test_pairs_are_not_the_other_way_about(self):
        for text, wrong in (("a b; b a", 1), ("a c; b d; c a", 2), ("a b; a c; b c; b d; d b", 4)):
            self.read(pairs_from, text, wrong)
        self.read(pairs_from, "a b; b c; c a", (("a", "b"), ("b", "c"), ("c", "a")))

    def test_pairs_have_unlike_kinds(self):
        for text, wrong in (("a a", 0), ("a b; b b", 1), ("abcdefgh abcdefgh", 0)):
            self.read(pairs_from, text, wrong)
        self.read(pairs_from, "a aa", (("a", "aa"),))

    def test_kinds_have_one_to_eight_letters(self):
        self.read(pairs_from, "a abcdefgh; abcdefgh z", (("a", "abcdefgh"), ("abcdefgh", "z")))
        self.read(queue_from, "z abcdefgh a", ("z", "abcdefgh", "a"))
        for text, wrong in (("abcdefghi a", 0), ("a b; b abcdefghi", 1), ("a ", 0), (" a", 0), ("a b; ", 1)):
            self.read(pairs_from, text, wrong)
        for text, wrong in (("abcdefghi", 0), ("a abcdefghi b", 1), ("a ", 1), (" a", 0), ("a  b", 1)):
            self.read(queue_from, text, wrong)

    def test_kinds_have_letters_a_to_z_alone(self):
        for word in ("A", "aB", "1", "a1", "a-b", "a_b", "a.", "`", "{", "\u00e9", "\u0430", "\u00df", "a\n", "a\u00a0b"):
            self.read(pairs_from, f"a {word}", 0)
            self.read(pairs_from, f"a b; {word} c", 1)
            self.read(queue_from, f"a {word}", 1)
        self.read(queue_from, "abcdefgh ijklmnop qrstuvwx yz", ("abcdefgh", "ijklmnop", "qrstuvwx", "yz"))

    def test_each_sign(self):
        for sign in [chr(number) for number in range(256) if number != 32]:
            small, digit = "a" <= sign <= "z", "0" <= sign <= "9"
            self.read(queue_from, f"b {sign}b", ("b", sign + "b") if small else 1)
            self.read(pairs_from, f"b c{sign}", (("b", "c" + sign),) if small else 0)
            self.read(order_from, f"0 1{sign}", (0, int("1" + sign)) if digit else 1)

    def test_numbers_have_no_needless_zeros(self):
        self.read(order_from, "0", (0,))
        self.read(order_from, "10 100 0 20", (10, 100, 0, 20))
        for text, wrong in (("00", 0), ("01", 0), ("1 00", 1), ("0 1 02", 2), ("-0", 0), ("+0", 0), ("0x1", 0), ("1.0", 0)):
            self.read(order_from, text, wrong)

    def test_numbers_need_not_be_an_order(self):
        self.read(order_from, "5 3", (5, 3))
        self.read(order_from, 40 * "9", (10 ** 40 - 1,))

    def test_numbers_come_once(self):
        for text, wrong in (("0 0", 1), ("1 2 1", 2), ("12 1 2 12", 3)):
            self.read(order_from, text, wrong)
        self.read(order_from, "12 1 2", (12, 1, 2))

    def test_kinds_of_queues_come_more_than_once(self):
        self.read(queue_from, "b a b b", ("b", "a", "b", "b"))

    def test_the_first_wrong_piece_counts(self):
        self.read(pairs_from, "a b; b a; B; ", 1)
        self.read(queue_from, "a B C", 1)
        self.read(order_from, "3 3 04", 1)

    def test_long_texts(self):
        words = [first + second for first in "abcdefghij" for second in "klmnopqrst"]
        pairs = tuple(sorted((word, word + "x") for word in words))
        self.read(pairs_from, "; ".join(" ".join(pair) for pair in pairs), pairs)
        self.read(pairs_from, "; ".join(" ".join(pair) for pair in pairs) + "; zz", len(pairs))
        self.read(queue_from, " ".join(words * 20), tuple(words * 20))
        self.read(queue_from, " ".join(words * 20) + "  a", 2000)
        self.read(order_from, " ".join(str(number) for number in range(2000, 0, -1)), tuple(range(2000, 0, -1)))
        self.read(order_from, " ".join(str(number) for number in range(2000)) + " 7", 2000)

    def test_there_and_back(self):
        for pairs in all_pairs("abc") + all_pairs(("a", "aa", "abcdefgh")):
            self.same(pairs_from(pairs_text(pairs)), pairs)
        for queue in rows(("a", "b", "abcdefgh"), 4):
            self.same(queue_from(queue_text(queue)), queue)
        for order in ((), (0,), (1, 0), (3, 0, 2, 1), (10, 9, 11), (10 ** 30,)):
            self.same(order_from(order_text(order)), order)

    def test_the_same_call_returns_the_same(self):
        for reader, text in ((pairs_from, "a b; b c"), (queue_from, "a b"), (order_from, "1 0")):
            self.same(reader(text), reader(text))


if __name__ == "__main__":
    unittest.main()
