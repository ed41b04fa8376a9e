"""Reading a text from its front on."""

from shapecourt.errors import NoText
from shapecourt.words import LETTERS

FIGURES = "0123456789"
MOST_FIGURES = 70


class Cursor:
    """A text and the place up to which it is read."""

    def __init__(self, text):
        self.text = text
        self.at = 0

    def sees(self, signs):
        """Whether the next sign is one of some."""
        return self.at < len(self.text) and self.text[self.at] in signs

    def passes(self, mark):
        """Whether a mark stands next; it is read then."""
        behind = self.at + len(mark)
        if self.text[self.at:behind] != mark:
            return False
        self.at = behind
        return True

    def expect(self, mark):
        """Reads a mark that has to stand next."""
        if not self.passes(mark):
            raise NoText("the text goes on otherwise than it is written")

    def run_of(self, signs):
        """Reads all that stands next of some signs; there has to be something."""
        start = self.at
        while self.sees(signs):
            self.at += 1
        if self.at == start:
            raise NoText("a word or a number is missing")
        return self.text[start:self.at]

    def word(self):
        """Reads a name, however long."""
        return self.run_of(LETTERS)

    def sees_number(self):
        """Whether a number stands next."""
        return self.sees("-" + FIGURES)

    def number(self):
        """Reads a number, written as numbers are."""
        minus = "-" if self.passes("-") else ""
        figures = self.run_of(FIGURES)
        if len(figures) > MOST_FIGURES or str(int(minus + figures)) != minus + figures:
            raise NoText("a number is not written so")
        return int(minus + figures)

    def check_end(self):
        """Refuses a text that goes on."""
        if self.at < len(self.text):
            raise NoText("the text goes on behind its end")


def cursor_of(thing):
    """A cursor at the front of a text; a thing that is none is refused."""
    if not isinstance(thing, str):
        raise NoText("this is no text")
    return Cursor(thing)
