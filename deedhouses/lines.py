"""A line that is read sign by sign: where it can't go on as told, InvalidText tells the place."""

from deedhouses.errors import InvalidText
from deedhouses.ratios import ratio

LETTERS = "abcdefghijklmnopqrstuvwxyz"
DIGITS = "0123456789"


class Line:
    """A line of a text, its index, and the place up to which it is read.

    All that is read so far is the beginning of a line that may stand there, so the place at which
    nothing told can be read is the length of the longest such beginning.
    """

    def __init__(self, index, text):
        self.index = index
        self.text = text
        self.at = 0

    def is_next(self, signs):
        """Whether there is a next sign and it is one of these."""
        return self.at < len(self.text) and self.text[self.at] in signs

    def sign(self, signs):
        """Reads the next sign, one of these."""
        if not self.is_next(signs):
            raise InvalidText(self.index, self.at)
        self.at += 1
        return self.text[self.at - 1]

    def word(self, signs):
        """Reads just these signs."""
        for each in signs:
            self.sign(each)

    def one_of(self, words):
        """Reads one of these words, none of which is the beginning of another one."""
        left, read = words, ""
        while read not in left:
            read = read + self.sign([word[len(read)] for word in left])
            left = [word for word in left if word.startswith(read)]
        return read

    def is_end(self):
        """Whether all signs are read."""
        return self.at == len(self.text)

    def end(self):
        """Reads nothing: the line ends here."""
        if not self.is_end():
            raise InvalidText(self.index, self.at)

    def further(self, first, signs, most):
        """Reads signs like these as long as they go on, up to the told length; all from the first place on."""
        while self.at - first < most and self.is_next(signs):
            self.at += 1
        return self.text[first:self.at]

    def name(self):
        """Reads a name: the pair of it and of its place."""
        first = self.at
        self.sign(LETTERS)
        return self.further(first, LETTERS + DIGITS, 12), first

    def digits(self):
        """Reads a row of digits that does not begin with 0."""
        first = self.at
        self.sign("123456789")
        return int(self.further(first, DIGITS, 60))

    def number(self):
        """Reads a number."""
        top, bottom = 0, 1
        if self.is_next("0"):
            self.word("0")
        else:
            top = self.digits()
        if self.is_next("/"):
            self.word("/")
            bottom = self.digits()
        return ratio(top, bottom)

    def signed(self):
        """Reads a number that may have a - ahead."""
        sign = 1
        if self.is_next("-"):
            self.word("-")
            sign = -1
        top, bottom = self.number()
        return sign * top, bottom


def only_line(text):
    """The one line that a text is; InvalidText for no string."""
    if not isinstance(text, str):
        raise InvalidText(None, None)
    return Line(0, text)
