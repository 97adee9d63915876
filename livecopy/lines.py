"""Texts as lines of words: what all readers and writers of texts share.

Words that are read: `None` stands for a word that is not possible.
"""

from livecopy.errors import BadLine

MOST_DIGITS = 60
LONGEST_NAME = 12


class Lines:
    """The lines of a text, which are taken one after another."""

    def __init__(self, text):
        parts = text.split("\n")
        self._whole = parts[:-1]
        # What stands behind the last newline is a line that does not end as it must.
        self._torn = parts[-1] != ""
        self._taken = 0

    def is_over(self):
        """Return True if no line is left."""
        if self._taken < len(self._whole):
            return False
        if self._torn:
            raise BadLine(self._taken + 1)
        return True

    def take(self, outer=0, inner=0):
        """Return the next line, which must be indented by one of two numbers of spaces."""
        if self._taken == len(self._whole):
            raise BadLine(self._taken + 1)
        self._taken += 1
        line = Line(self._taken, self._whole[self._taken - 1])
        if line.indent not in (outer, inner):
            line.refuse()
        return line


class Line:
    """One line of a text, whose words are taken one after another."""

    def __init__(self, place, text):
        self.place = place
        self.indent = len(text) - len(text.lstrip(" "))
        self._words = text[self.indent:].split(" ")
        self._taken = 0

    def refuse(self):
        """Raise the error of this line."""
        raise BadLine(self.place)

    def has_more(self):
        """Return True if a word is left."""
        return self._taken < len(self._words)

    def take_word(self):
        """Return the next word."""
        if not self.has_more():
            self.refuse()
        self._taken += 1
        return self._words[self._taken - 1]

    def expect(self, word):
        """Take the next word, which must be this one."""
        if self.take_word() != word:
            self.refuse()

    def finish(self):
        """Refuse further words."""
        if self.has_more():
            self.refuse()

    def take_name(self):
        """Take a name."""
        return self._possible(read_name(self.take_word()))

    def take_number(self):
        """Take a number."""
        return self._possible(read_number(self.take_word()))

    def take_number_behind(self, word):
        """Take this word and a number."""
        self.expect(word)
        return self.take_number()

    def take_operand(self):
        """Take a number or a name."""
        return self._possible(read_operand(self.take_word()))

    def take_list(self):
        """Take a list of patch numbers, and return it as a tuple."""
        return self._possible(read_list(self.take_word()))

    def take_list_behind(self, word):
        """Take this word and a list of patch numbers."""
        self.expect(word)
        return self.take_list()

    def take_numbers(self):
        """Take all further words, which must be numbers."""
        numbers = []
        while self.has_more():
            numbers.append(self.take_number())
        return numbers

    def take_writes(self):
        """Take all further words, which must be writes of numbers."""
        writes = self.take_open_writes()
        for _, value in writes:
            if isinstance(value, str):
                self.refuse()
        return writes

    def take_open_writes(self):
        """Take all further words, which must be writes of numbers or names."""
        writes = []
        while self.has_more():
            cell, _, value = self.take_word().partition("=")
            writes.append((self._possible(read_number(cell)), self._possible(read_operand(value))))
        return writes

    def take_base(self):
        """Take the word `base` and the values behind it."""
        self.expect("base")
        return self.take_numbers()

    def take_parts(self, form):
        """Take what a form says, to the end of the line."""
        parts = []
        for kind in form:
            match kind:
                case "name":
                    parts.append(self.take_name())
                case "number":
                    parts.append(self.take_number())
                case "operand":
                    parts.append(self.take_operand())
                case "values":
                    parts.append(self.take_writes())
                case "writes":
                    parts.append(self.take_open_writes())
        self.finish()
        return parts

    def _possible(self, part):
        if part is None:
            self.refuse()
        return part


def read_name(word):
    """Return a name, or None for another word."""
    if not 1 <= len(word) <= LONGEST_NAME or not "a" <= word[0] <= "z":
        return None
    if all(["a" <= mark <= "z" or "0" <= mark <= "9" for mark in word]):
        return word
    return None


def read_number(word):
    """Return the number that a word is written for, or None for another word."""
    digits = word[1:] if word.startswith("-") else word
    if not 1 <= len(digits) <= MOST_DIGITS or not all(["0" <= mark <= "9" for mark in digits]):
        return None
    if digits[0] == "0" and word != "0":
        return None
    return int(word)


def read_operand(word):
    """Return a number or a name, or None for another word."""
    number = read_number(word)
    if number is None:
        return read_name(word)
    return number


def read_list(word):
    """Return a tuple of patch numbers, or None for another word."""
    if word == "-":
        return ()
    numbers = [0]
    for part in word.split(","):
        number = read_number(part)
        if number is None or number <= numbers[-1]:
            return None
        numbers.append(number)
    return tuple(numbers[1:])


def number_text(number):
    """Return a number of any length as a word."""
    if number < 0:
        return "-" + number_text(-number)
    # Python refuses to write very long numbers in one piece.
    parts = []
    while number >= 10 ** 60:
        number, rest = divmod(number, 10 ** 60)
        parts.append(str(rest).zfill(60))
    parts.append(str(number))
    return "".join(parts[::-1])


def operand_text(operand):
    """Return a number or a name as a word."""
    if isinstance(operand, str):
        return operand
    return number_text(operand)


def list_text(numbers):
    """Return patch numbers as a word."""
    if len(numbers) == 0:
        return "-"
    return ",".join([number_text(number) for number in numbers])


def writes_words(writes):
    """Return the words for writes."""
    return [f"{number_text(cell)}={operand_text(value)}" for cell, value in writes]


def numbers_line(first, numbers):
    """Return the line of a first word and numbers."""
    return " ".join([first, *[number_text(number) for number in numbers]])


def parts_line(parts, form):
    """Return the line of a tuple, whose first word is followed by what its form says."""
    words = [parts[0]]
    for kind, part in zip(form, parts[1:]):
        if kind in ("values", "writes"):
            words.extend(writes_words(part))
        else:
            words.append(operand_text(part))
    return " ".join(words)


def joined_lines(lines):
    """Return the text of a list of lines."""
    return "".join([line + "\n" for line in lines])
