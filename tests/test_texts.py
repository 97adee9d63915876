"""Points 72 and 74: books, requests and certificates as texts."""

import random
import unittest

from livecopy.book import Book
from livecopy.certificates import Certificate, certificate, check_certificate
from livecopy.errors import BadLine
from livecopy.texts import (
    book_text, certificate_text, parse_book, parse_certificate, parse_requests, requests_text)
from tests.support import chain_book, random_book, random_case, refused, same_arguments, snapshot, wide_book

GREAT = 10 ** 60 - 1

# The book of chain_book.
CHAIN = """base 10 20 30
patch 1 size 1 requires - conflicts - writes 0=11
patch 2 size 2 requires 1 conflicts - writes 0=12 1=22
patch 3 size 5 requires - conflicts 1,2 writes 0=13
patch 4 size 1 requires - conflicts - writes 2=34
"""

REQUESTS = "3 of 1,2\n1 of -\n" + str(GREAT) + " of 3,4,12\n"

# Words that are no numbers, and words that are no lists.
NO_NUMBERS = ("", "+1", "01", "00", "-0", "-", "--1", "1.0", "1,2", "x", "1x", "1_0", "\u0663", "9" * 61, "-" + "9" * 61)
NO_LISTS = ("", "0", "-1", "1,", ",1", "1,,2", "2,1", "1,1", "1,2,2", "1,-", "-,1", "--", "()", "x", "01", "1,02", "+1",
            "1;2", "0,1", "1," + "9" * 61)


class BookTextTest(unittest.TestCase):

    def test_a_text(self):
        self.assertEqual(book_text(chain_book()), CHAIN)
        read = parse_book(CHAIN)
        self.assertIs(read.__class__, Book)
        self.assertEqual(snapshot(read), snapshot(chain_book()))
        self.assertEqual(book_text(Book([-5])), "base -5\n")
        self.assertEqual(snapshot(parse_book("base -5\n")), snapshot(Book([-5])))

    def test_round_trip(self):
        for seed in range(150):
            book, _ = random_book(self, seed, attempts=12)
            before = snapshot(book)
            text = book_text(book)
            read = parse_book(text)
            self.assertEqual((snapshot(read), snapshot(book)), (before, before))
            self.assertEqual(book_text(read), text)

    def test_what_is_written(self):
        for seed in range(40):
            book, _ = random_book(self, seed, attempts=12)
            for number, line in zip(book, book_text(book).split("\n")[1:]):
                words = line.split(" ")
                earlier = [str(n) for n in book.conflicting(number) if n < number]
                self.assertEqual(words[:9:2], ["patch", "size", "requires", "conflicts", "writes"])
                self.assertEqual(words[5], ",".join(map(str, book.required(number))) or "-")
                self.assertEqual(words[7], ",".join(earlier) or "-")
                self.assertEqual(words[9:], [f"{cell}={value}" for cell, value in book.writes_of(number)])

    def test_a_part_of_what_follows_is_enough(self):
        text = """base 1 2 3
patch 1 size 0 requires - conflicts - writes 2=5 0=4
patch 2 size 0 requires 1 conflicts - writes 1=6
patch 3 size 7 requires 2 conflicts - writes 0=8
patch 4 size 1 requires - conflicts 3 writes 1=9
"""
        self.assertEqual(book_text(parse_book(text)), """base 1 2 3
patch 1 size 2 requires - conflicts - writes 0=4 2=5
patch 2 size 1 requires 1 conflicts - writes 1=6
patch 3 size 7 requires 1,2 conflicts - writes 0=8
patch 4 size 1 requires - conflicts 2,3 writes 1=9
""")

    def test_wrong_first_lines(self):
        for line in ("", "base", "base ", " base 1", "base  1", "base 1 ", "bases 1", "Base 1", "patch 1", "1", "base 1=2"):
            refused(self, BadLine, (1,), parse_book, line + "\nnonsense\n")
        for word in NO_NUMBERS:
            refused(self, BadLine, (1,), parse_book, f"base 1 {word} 2\n")

    def test_wrong_patch_lines(self):
        wrong = (
            "", " patch 2 size 1 requires - conflicts - writes 0=1", "base 1", "patch",
            "patch 1 size 1 requires - conflicts - writes 0=1", "patch 3 size 1 requires - conflicts - writes 0=1",
            "patch 2 requires - size 1 conflicts - writes 0=1", "patch 2 size 1 requires - conflicts - writes 0=1 ",
            "patch 2 size 1 requires - conflicts - writes  0=1", "patch 2 size 1 requires - conflicts -",
            "patch 2 size 1 requires - conflicts - write 0=1", "patch 2 size 1 conflicts - requires - writes 0=1",
            "patch 2 size 1 requires - conflicts - writes 0=1 0", "patch 2 size 1 requires - conflicts - writes 0=x",
            "patch 2 size 1 requires - conflicts - writes 0", "patch 2 size 1 requires - conflicts - writes 0=",
            "patch 2 size 1 requires - conflicts - writes =0", "patch 2 size 1 requires - conflicts - writes 0=1=1",
            "Patch 2 size 1 requires - conflicts - writes 0=1")
        for line in wrong:
            with self.subTest(line=line):
                refused(self, BadLine, (3,), parse_book, f"base 1 2\npatch 1 size 1 requires - conflicts - writes 0=1\n{line}\nx\n")
        form = "base 1 2\npatch {} size {} requires {} conflicts {} writes {}={}\nx\n"
        parts = ["1", "1", "-", "-", "0", "5"]
        for place in (0, 1, 4, 5):
            for word in NO_NUMBERS:
                refused(self, BadLine, (2,), parse_book, form.format(*[*parts[:place], word, *parts[place + 1:]]))
        for place in (2, 3):
            for word in NO_LISTS:
                refused(self, BadLine, (2,), parse_book, form.format(*[*parts[:place], word, *parts[place + 1:]]))

    def test_patches_that_are_refused(self):
        start = "base 1 2\npatch 1 size 1 requires - conflicts - writes 0=1\npatch 2 size 1 requires - conflicts - writes 0=2\n"
        wrong = (
            "patch 3 size -1 requires - conflicts - writes 1=1", "patch 3 size 1 requires 3 conflicts - writes 1=1",
            "patch 3 size 1 requires - conflicts 7 writes 1=1", "patch 3 size 1 requires - conflicts - writes",
            "patch 3 size 1 requires - conflicts - writes 2=1", "patch 3 size 1 requires - conflicts - writes -1=1",
            "patch 3 size 1 requires - conflicts - writes 1=1 1=2", "patch 3 size 1 requires 1,2 conflicts - writes 1=1",
            "patch 3 size 1 requires 1 conflicts 1 writes 1=1")
        for line in wrong:
            with self.subTest(line=line):
                refused(self, BadLine, (4,), parse_book, start + line + "\nx\n")
        self.assertEqual(len(parse_book(start + "patch 3 size 1 requires 1 conflicts - writes 1=1\n")), 3)

    def test_cut_texts(self):
        lines = CHAIN.split("\n")[:-1]
        for many in range(len(lines)):
            head = "".join(line + "\n" for line in lines[:many])
            if many:
                self.assertEqual(len(parse_book(head)), many - 1)
            refused(self, BadLine, (many + 1,), parse_book, head + lines[many])
        refused(self, BadLine, (1,), parse_book, "")
        refused(self, BadLine, (1,), parse_book, "\n" + CHAIN)
        refused(self, BadLine, (6,), parse_book, CHAIN + "\n")
        # The lines ahead of one that does not end are read first.
        refused(self, BadLine, (2,), parse_book, "base 1\npatch 1 size 1 requires - conflicts - writes 9=9\npatch")

    def test_long_numbers(self):
        book = Book([GREAT, -GREAT])
        book.make_patch([(1, -GREAT)], size=GREAT)
        self.assertEqual(snapshot(parse_book(book_text(book))), snapshot(book))
        book = Book([0])
        book.make_patch([(0, -(10 ** 60))])
        refused(self, BadLine, (2,), parse_book, book_text(book))
        book = Book([10 ** 5000])
        self.assertEqual(book_text(book), "base 1" + "0" * 5000 + "\n")
        refused(self, BadLine, (1,), parse_book, book_text(book))

    def test_at_the_limits(self):
        book = Book([GREAT] * 400)
        for number in range(1, 201):
            book.make_patch([(cell, number) for cell in range(number * 2)], requires=(number - 1,) if number > 1 else ())
        text = book_text(book)
        read = parse_book(text)
        self.assertEqual((book_text(read), read.required(200)), (text, tuple(range(1, 200))))
        book = wide_book(200)
        book.make_patch([(cell, 1) for cell in range(200)])
        self.assertEqual(book_text(parse_book(book_text(book))), book_text(book))


class RequestsTextTest(unittest.TestCase):

    def test_a_text(self):
        requests = [((1, 2), 3), ((), 1), ((3, 4, 12), GREAT)]
        self.assertEqual(same_arguments(self, requests_text, requests), REQUESTS)
        self.assertEqual(parse_requests(REQUESTS), requests)
        self.assertEqual([part.__class__ for part in (parse_requests(REQUESTS)[0], parse_requests(REQUESTS)[0][0])], [tuple] * 2)
        self.assertEqual((requests_text([]), parse_requests("")), ("", []))

    def test_round_trip(self):
        source = random.Random(1)
        for _ in range(60):
            requests = [
                (tuple(n for n in range(1, 13) if source.random() < 0.3), source.choice((1, 2, 10 ** 30)))
                for _ in range(source.randrange(9))]
            self.assertEqual(parse_requests(requests_text(requests)), requests)

    def test_wrong_lines(self):
        wrong = ("", "1", "1 of", "1 of ", "of 1", "1 on 1", "1 of 1 2", "1 of 1 ", " 1 of 1", "1  of 1", "1 of  1",
                 "0 of 1", "-1 of 1", "1 Of 1", "1 of 1,2,", "base 1")
        for line in [*wrong, *[word + " of 1" for word in NO_NUMBERS], *["1 of " + word for word in NO_LISTS]]:
            with self.subTest(line=line):
                refused(self, BadLine, (2,), parse_requests, f"1 of 1\n{line}\nx\n")

    def test_a_missing_last_newline(self):
        refused(self, BadLine, (1,), parse_requests, "1 of 1")
        refused(self, BadLine, (3,), parse_requests, "1 of 1\n1 of -\n1 of 2")
        refused(self, BadLine, (2,), parse_requests, "1 of 1\n0 of -\n1 of 2")
        refused(self, BadLine, (1,), parse_requests, "\n")

    def test_counts_of_any_length(self):
        text = requests_text([((1,), 10 ** 60), ((10 ** 60,), 1)])
        self.assertEqual(text, f"{10 ** 60} of 1\n1 of {10 ** 60}\n")
        refused(self, BadLine, (1,), parse_requests, text)
        refused(self, BadLine, (2,), parse_requests, "1 of 1\n" + text.split("\n")[1] + "\n")
        self.assertEqual(requests_text([((), 10 ** 4400)]), "1" + "0" * 4400 + " of -\n")


class CertificateTextTest(unittest.TestCase):

    def check(self, plan, numbers, text):
        made = Certificate(plan, numbers)
        self.assertEqual(same_arguments(self, certificate_text, made), text)
        self.assertEqual((made.plan, made.numbers), (plan, numbers))
        read = parse_certificate(text)
        self.assertIs(read.__class__, Certificate)
        self.assertEqual((read.plan, read.numbers), (plan, numbers))

    def test_texts(self):
        self.check([(1,), (), (1, 2)], [[1, -1, 0], [GREAT, -GREAT, 5]],
                   f"home 1\nhome -\nhome 1,2\nnumbers 1 -1 0\nnumbers {GREAT} {-GREAT} 5\n")
        self.check([], [[], []], "numbers\nnumbers\n")
        self.check([()], [], "home -\n")
        self.check([], [], "")
        self.check([(3,)], [[1, 2, 3], []], "home 3\nnumbers 1 2 3\nnumbers\n")

    def test_round_trip(self):
        for seed in range(60):
            book, versions, home, requests, source = random_case(self, seed)
            made = certificate(book, home, requests, toggle=3)
            read = parse_certificate(certificate_text(made))
            self.assertEqual((read.plan, read.numbers), (made.plan, made.numbers))
            self.assertEqual(check_certificate(book, home, requests, read, toggle=3),
                             check_certificate(book, home, requests, made, toggle=3))

    def test_wrong_lines(self):
        wrong = ("", "home", "home ", "home  1", "home 1 2", "home 1 ", " home 1", "Home 1", "1", "number 1", "numbers ",
                 "numbers  1", "numbers 1 ", " numbers 1", "base 1")
        for line in [*wrong, *["home " + word for word in NO_LISTS], *["numbers 1 " + word for word in NO_NUMBERS]]:
            with self.subTest(line=line):
                refused(self, BadLine, (2,), parse_certificate, f"home 1\n{line}\nx\n")
        refused(self, BadLine, (3,), parse_certificate, "home 1\nnumbers 1\nhome 1\nx\n")

    def test_a_missing_last_newline(self):
        refused(self, BadLine, (1,), parse_certificate, "home 1")
        refused(self, BadLine, (2,), parse_certificate, "home 1\nnumbers")
        refused(self, BadLine, (1,), parse_certificate, "homes 1\nnumbers")
        refused(self, BadLine, (1,), parse_certificate, "\n")

    def test_numbers_of_any_length(self):
        text = certificate_text(Certificate([], [[1, -(10 ** 60)]]))
        self.assertEqual(text, f"numbers 1 {-(10 ** 60)}\n")
        refused(self, BadLine, (1,), parse_certificate, text)

    def test_at_the_limits(self):
        plan, numbers = [tuple(range(1, 201))] * 400, [[GREAT] * 400] * 200
        read = parse_certificate(certificate_text(Certificate(plan, numbers)))
        self.assertEqual((read.plan, read.numbers), (plan, numbers))


if __name__ == "__main__":
    unittest.main()
