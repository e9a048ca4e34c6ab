"""Tests of letahead.desk: [2], [3], [16]."""

import re
import unittest
from itertools import product

from checks import Checks, numbers_from
from letahead import desk
from letahead.desk import answers
from letahead.errors import BadLine
from walks import is_handed, reached

NAME = "[a-z]{1,8}"
QUEUE = f"(-|{NAME}(?: {NAME})*)"
PERSON = "(0|[1-9][0-9]*)"
FORMS = [re.compile(form) for form in (
    "(names)", f"(drop|text|handed) ({NAME})", f"(lets) ({NAME}) ({NAME}) ({NAME})", f"(first) ({NAME}) {QUEUE}",
    f"(earliest|latest) ({NAME}) {PERSON} {QUEUE}", f"(book) ({NAME}) (-|{NAME} {NAME}(?:; {NAME} {NAME})*)",
)]
# At least one line of each request, also with the NAMEs of requests, and with what is refused.
LINES = [
    "names", "drop x", "text x", "handed x", "lets x a b", "first x a b c", "first x -", "earliest x 2 a b c",
    "latest x 0 a b c", "earliest x 10 a", "latest y 0 -", "book x a b; b c", "book x -", "book names names first",
    "text names", "lets x a a", "drop y", "earliest y 1 q q", "book abcdefgh a abcdefgh; b a", "first abcdefgh b a abcdefgh",
]
SIGNS = " -;ab0179x\t\n.A"


def pairs_in(text):
    return tuple(tuple(piece.split()) for piece in text.split(";")) if text != "-" else ()


def request_in(line):
    """The words of a request, those of the last part as one; None if the line is none."""
    found = [match.groups() for match in (form.fullmatch(line) for form in FORMS) if match]
    if not found:
        return None
    if found[0][0] == "book":
        pairs = pairs_in(found[0][2])
        if list(pairs) != sorted(set(pairs)) or any(pair[::-1] in pairs for pair in pairs):
            return None
    return found[0]


def answer(books, word, *parts):
    """The answer to a request, by all COURSES where it is about a QUEUE."""
    if word == "names":
        return " ".join(sorted(books)) or "-"
    if word == "book":
        books[parts[0]] = parts[1]
        return "done"
    if parts[0] not in books:
        return "refused NoBook"
    if word == "drop":
        del books[parts[0]]
        return "done"
    text = books[parts[0]]
    pairs = pairs_in(text)
    if word == "text":
        return text
    if word == "handed":
        return "yes" if is_handed(pairs) else "no"
    if word == "lets":
        return "yes" if parts[1:] in pairs else "no"
    queue = parts[-1].split() if parts[-1] != "-" else []
    found = reached(pairs, queue)
    if word == "first":
        return " ".join(str(one) for one in sorted({order[0] for order in found if order})) or "-"
    person = int(parts[1])
    if person >= len(queue):
        return "refused NoPlace"
    places = [order.index(person) for order in found]
    return str(min(places) if word == "earliest" else max(places))


def wanted(text):
    """The answers to a text, or the number of the first line that is no request."""
    requests = [request_in(line) for line in text.split("\n")] if text else []
    if None in requests:
        return requests.index(None)
    books = {}
    return [answer(books, *request) for request in requests]


def bent(line):
    """The line with one sign taken out, put in or put in the place of another one, at each place."""
    for at in range(len(line) + 1):
        yield line[:at] + line[at + 1:]
        for sign in SIGNS:
            yield line[:at] + sign + line[at:]
            yield line[:at] + sign + line[at + 1:]


class DeskChecks(Checks):
    def tells(self, text):
        """The text is answered, or refused, as it has to be."""
        told = wanted(text)
        if isinstance(told, int):
            self.refused(BadLine, {"number": told}, answers, text)
        else:
            self.same((text, answers(text)), (text, told))


class ExamplesTest(Checks):
    def test_answers(self):
        self.same(answers(
            "names\nbook x a b; b c\nhanded x\nlets x a c\nlets x b c\nfirst x a b c\nearliest x 2 a b c\n"
            "latest x 0 a b c\nearliest x 3 a b c\nfirst x -\nbook x a b; a c; b c\nhanded x\nfirst x a b c\ntext x\n"
            "book y -\nnames\ntext y\nfirst y p q\ndrop x\ndrop x\ntext x\nnames"
        ), [
            "-", "done", "no", "no", "yes", "0 1", "1", "1", "refused NoPlace", "-", "done", "yes", "0 1 2",
            "a b; a c; b c", "done", "x y", "-", "0", "done", "refused NoBook", "refused NoBook", "y",
        ])

    def test_no_signs_and_bad_lines(self):
        self.same(answers(""), [])
        self.refused(BadLine, {"number": 1}, answers, "names\nbook x a b; b a")
        self.refused(BadLine, {"number": 1}, answers, "names\n")

    def test_what_stands_here_is_defined_here(self):
        self.defined_in(desk, ["answers"])


class AnswersTest(DeskChecks):
    def test_each_request_beside_each_book(self):
        for pairs, line in product(("-", "a b", "a b; a c; b c", "a b; b c", "a c; b a", "b a; c a; c b", "names first"), LINES):
            self.tells(f"book x {pairs}\n{line}\nnames\ntext x")
            self.tells(f"{line}\nbook y {pairs}\n{line}\nnames")

    def test_first_and_earliest_and_latest(self):
        for pairs in ("-", "a b", "a b; a c; b c", "a b; b c", "a b; b c; c a", "a c; b c; c d"):
            queues = ("-", "a", "b a", "a b c", "c b a", "a a b", "a b z c", "b a c a", "a c b c", "a b c d a")
            lines = [f"book x {pairs}"]
            for queue in queues:
                lines.append(f"first x {queue}")
                lines.extend(f"{word} x {person} {queue}" for word in ("earliest", "latest") for person in range(7)
                             if person < 3 or len(queue) > 5)
            for at in range(1, len(lines), 58):
                self.tells("\n".join(lines[:1] + lines[at:at + 58]))

    def test_lets(self):
        lines = [f"lets x {one} {other}" for one, other in product("abcz", repeat=2)]
        for pairs in ("-", "a b", "a b; b c", "a z; b a; c b"):
            self.tells("\n".join([f"book x {pairs}", *lines]))

    def test_a_book_in_the_place_of_another_one(self):
        self.tells("book x a b\nbook x b a\ntext x\nlets x a b\nlets x b a\nnames\ndrop x\ndrop x\nbook x -\ntext x")

    def test_names_ascend(self):
        self.tells("book z -\nbook a -\nbook aa -\nbook abcdefgh -\nbook b -\nnames\ndrop aa\nnames\nbook aa -\nnames")

    def test_refusals_change_nothing(self):
        for line in ("drop y", "text y", "handed y", "lets y a b", "first y a", "earliest y 0 a", "latest y 9 a",
                     "earliest x 2 a b", "latest x 2 a b", "earliest x 0 -", f"latest x {10 ** 39} a"):
            self.tells(f"{line}\nnames\nbook x a b\n{line}\nnames\ntext x\n{line}\nfirst x a b\nnames")

    def test_no_book_ahead_of_no_place(self):
        self.same(answers("earliest x 5 a\nlatest x 5 -\nbook x -\nearliest x 5 a\nlatest x 0 -"),
                  ["refused NoBook", "refused NoBook", "done", "refused NoPlace", "refused NoPlace"])

    def test_each_call_begins_without_books(self):
        self.same((answers("book x a b\nnames"), answers("names")), (["done", "x"], ["-"]))

    def test_sixty_lines_and_eight_kinds_and_ten_persons(self):
        kinds = "abcdefgh"
        pairs = "; ".join(f"{one} {other}" for one in kinds for other in kinds if one < other)
        lines = [f"book x {pairs}", "text x", "handed x", "first x a a b b c c d d h z"]
        lines += [f"{word} x {person} a a b b c c d d h z" for word in ("earliest", "latest") for person in range(12)]
        self.same(answers("\n".join(lines)), ["done", pairs, "yes", "0 2 4 6 8"] + list("0101010109") + ["refused NoPlace"] * 2
                  + list("7878787889") + ["refused NoPlace"] * 2)
        self.same(answers("\n".join(lines[:1] + lines[3:4] * 59)), ["done"] + ["0 2 4 6 8"] * 59)

    def test_many_requests(self):
        luck = numbers_from(9)
        names, kinds = ("x", "y", "names"), "abc"
        texts = ("-", "a b", "a b; b c", "a b; a c; b c", "b a; c b", "c a")
        for _ in range(60):
            lines = []
            for _ in range(next(luck) % 60 + 1):
                word = ("book", "drop", "names", "text", "handed", "lets", "first", "earliest", "latest")[next(luck) % 9]
                name, queue = names[next(luck) % 3], [kinds[next(luck) % 3] for _ in range(next(luck) % 5)]
                queue = " ".join(queue) or "-"
                lines.append({
                    "book": f"book {name} {texts[next(luck) % 6]}", "names": "names", "first": f"first {name} {queue}",
                    "lets": f"lets {name} {kinds[next(luck) % 3]} {kinds[next(luck) % 3]}",
                    "earliest": f"earliest {name} {next(luck) % 5} {queue}",
                    "latest": f"latest {name} {next(luck) % 5} {queue}",
                }.get(word, f"{word} {name}"))
            self.assertIsInstance(wanted("\n".join(lines)), list)
            self.tells("\n".join(lines))
            # One bent line decides, whatever stands ahead of it and behind it.
            at = next(luck) % len(lines)
            wrong = list(bent(lines[at]))
            lines[at] = wrong[next(luck) % len(wrong)]
            self.tells("\n".join(lines))

    def test_by_name(self):
        self.same((answers(text="names"), answers(text="")), (["-"], []))
        first, second = answers("names"), answers("names")
        first.append("x")
        self.same(second, ["-"])


class BadLineTest(DeskChecks):
    def test_a_line_that_is_bent_in_each_place(self):
        for line in LINES:
            self.assertIsNotNone(request_in(line))
            for wrong in dict.fromkeys(bent(line)):
                self.tells(f"book x a b; b c\n{wrong}\nnames")

    def test_words_too_few_and_too_many(self):
        for line in LINES:
            words = line.split(" ")
            for at in range(len(words) + 1):
                self.tells(" ".join(words[:at] + words[at + 1:]))
                for word in ("a", "-", "0", "names", "", " ", "a;", "abcdefghi", "01", "-1", "+1"):
                    self.tells("\n".join(["names", " ".join(words[:at] + [word] + words[at:])]))
                    self.tells("\n".join(["names", " ".join(words[:at] + [word] + words[at + 1:])]))

    def test_words_that_are_no_request(self):
        for line in ("", " ", "-", "name", "Names", "NAMES", "names names", "names -", "put x -", "undo", "end x a", "NoBook",
                     "done", "refused NoBook", "books x -", "book", "drop", "text", "handed", "lets", "first", "earliest",
                     "latest", "latest x", "latest x 0", "latest x -", "first x", "book x", "drop x y", "text -", "lets x a",
                     "lets x a b c", "earliest x a 0", "earliest 0 x a", "first x a - b", "first x 0", "earliest x - a",
                     "handed x\r", "names\x0b", "n\u00e4mes"):
            for text, number in ((line, 0), (f"names\n{line}", 1), (f"{line}\nnames", 0), (f"names\n{line}\nbad line", 1)):
                if text:
                    self.refused(BadLine, {"number": number}, answers, text)

    def test_pairs_that_can_not_stand_together(self):
        for pairs in ("a a", "a b; b a", "a b; a b", "b c; a b", "a b; c d; b a", "a b;b c", "a b ; b c", "a b; ", "; a b", "",
                      "a", "a b c", "a b, b c", "-; a b", "a b; -", "--", "a b; b c; c c"):
            self.refused(BadLine, {"number": 2}, answers, f"book x -\nnames\nbook x {pairs}\nnames")

    def test_ahead_of_all_that_is_done(self):
        # The first line would be refused, but the second one is none.
        self.refused(BadLine, {"number": 1}, answers, "drop x\ndrop\ntext")
        self.refused(BadLine, {"number": 59}, answers, "names\n" * 59 + "book x a")

    def test_empty_lines(self):
        for text, number in (("\n", 0), ("\n\n", 0), ("names\n", 1), ("names\n\nnames", 1), ("\nnames", 0), ("names\n\n", 1),
                             ("names\r\nnames", 0), ("names\n ", 1)):
            self.refused(BadLine, {"number": number}, answers, text)


if __name__ == "__main__":
    unittest.main()
