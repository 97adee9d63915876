"""Books, requests and certificates as texts."""

from livecopy.book import Book
from livecopy.certificates import Certificate
from livecopy.errors import BadLine, LivecopyError
from livecopy.lines import Lines, joined_lines, list_text, number_text, numbers_line, writes_words


def book_text(book):
    """Return the text of a book."""
    return joined_lines([numbers_line("base", book.base_row()), *[_patch_line(book, number) for number in book]])


def parse_book(text):
    """Return the book of a text."""
    lines = Lines(text)
    line = lines.take()
    base = line.take_base()
    if len(base) == 0:
        line.refuse()
    book = Book(base)
    while not lines.is_over():
        _read_patch(lines.take(), book)
    return book


def requests_text(requests):
    """Return the text of a list of requests."""
    return joined_lines([f"{number_text(count)} of {list_text(version)}" for version, count in requests])


def parse_requests(text):
    """Return the list of requests of a text."""
    lines = Lines(text)
    requests = []
    while not lines.is_over():
        line = lines.take()
        count = line.take_number()
        version = line.take_list_behind("of")
        line.finish()
        if count < 1:
            line.refuse()
        requests.append((version, count))
    return requests


def certificate_text(certificate):
    """Return the text of a certificate."""
    homes = [f"home {list_text(version)}" for version in certificate.plan]
    return joined_lines([*homes, *[numbers_line("numbers", row) for row in certificate.numbers]])


def parse_certificate(text):
    """Return the certificate of a text."""
    lines = Lines(text)
    plan = []
    numbers = []
    while not lines.is_over():
        line = lines.take()
        word = line.take_word()
        if word == "home" and len(numbers) == 0:
            plan.append(line.take_list())
            line.finish()
        elif word == "numbers":
            numbers.append(line.take_numbers())
        else:
            line.refuse()
    return Certificate(plan, numbers)


def _patch_line(book, number):
    earlier = [other for other in book.conflicting(number) if other < number]
    words = [
        "patch", number_text(number), "size", number_text(book.size_of(number)),
        "requires", list_text(book.required(number)), "conflicts", list_text(earlier), "writes"]
    return " ".join([*words, *writes_words(book.writes_of(number))])


def _read_patch(line, book):
    """Read the line of the next patch of a book, and make it."""
    number = line.take_number_behind("patch")
    size = line.take_number_behind("size")
    requires = line.take_list_behind("requires")
    conflicts = line.take_list_behind("conflicts")
    line.expect("writes")
    writes = line.take_writes()
    if number != len(book) + 1:
        line.refuse()
    try:
        book.make_patch(writes, requires=requires, conflicts=conflicts, size=size)
    except LivecopyError:
        raise BadLine(line.place)
