"""The desk: it is told rows of text, keeps cases under names, and answers texts."""

from shapecourt.alike import alike
from shapecourt.cases import told
from shapecourt.cursors import FIGURES
from shapecourt.errors import NoDeed, NoName, NoText
from shapecourt.least import least_tree
from shapecourt.moves import exchanged, left_out, merged, moved, parted, tidied
from shapecourt.seeking import comes, covered, meet
from shapecourt.texts import read_book, read_cases, read_value, written_cases, written_value
from shapecourt.trees import depth
from shapecourt.words import is_word

# By the first word of a row, how many names and how many numbers stand behind it.
FORMS = {
    "names": (0, 0), "show": (1, 0), "covered": (1, 0), "alike": (2, 0), "comes": (1, 1), "meet": (1, 2),
    "least": (1, 0), "drop": (1, 1), "swap": (1, 1), "move": (1, 2), "merge": (1, 1), "part": (1, 1), "tidy": (1, 0),
    "undo": (1, 0),
}
MOVES = ("drop", "swap", "move", "merge", "part", "tidy")
LONGEST_NUMBER = 3


def is_number_text(text):
    """Whether a text is a number from 0 of one to three figures, no nought ahead but in 0."""
    if not 1 <= len(text) <= LONGEST_NUMBER or not all(sign in FIGURES for sign in text):
        return False
    return text == "0" or text[0] != "0"


def is_formed(parts):
    """Whether words are those of a row that has no value and no cases in it."""
    if parts[0] not in FORMS:
        return False
    names, numbers = FORMS[parts[0]]
    if len(parts) != 1 + names + numbers:
        return False
    return all(is_word(part) for part in parts[1:1 + names]) and all(is_number_text(part) for part in parts[1 + names:])


def deed_of(row):
    """What a row asks for: its first word, its names, its numbers, and the text of a value or of cases in it."""
    if not isinstance(row, str):
        raise NoText("this is no text")
    head, line_end, cases_text = row.partition("\n")
    parts = head.split(" ")
    if parts[0] == "keep" and line_end and len(parts) == 2 and is_word(parts[1]):
        return "keep", parts[1:], [], cases_text
    parts = row.split(" ", 2)
    if parts[0] == "tell" and len(parts) == 3 and is_word(parts[1]):
        return "tell", parts[1:2], [], parts[2]
    parts = row.split(" ")
    if not is_formed(parts):
        raise NoText("the desk is told no such row")
    names = FORMS[parts[0]][0]
    return parts[0], parts[1:1 + names], [int(part) for part in parts[1 + names:]], ""


def shown(answer, by_value, by_paper):
    """The text of what is told by a value or by a paper."""
    word, thing = answer
    return by_value + " " + written_value(thing) if word == "value" else by_paper


def told_text(book, cases, value_text):
    """What cases tell of a value, both as texts."""
    told_of_it = told(book, cases, read_value(book, cases[0], value_text))
    return "none" if told_of_it is None else f"{told_of_it[0]} {written_value(told_of_it[1])}"


def alike_text(book, one, other):
    """Whether two cases are alike, as a text."""
    if one[:2] != other[:2]:
        raise NoDeed("these cases are of unlike kinds")
    return shown(alike(book, one, other), "no", "yes")


def asked_text(book, word, cases, numbers):
    """The answer to a question about cases, as a text."""
    if word == "show":
        return written_cases(cases)
    if word == "covered":
        return shown(covered(book, cases), "no", "yes")
    if word == "comes":
        return shown(comes(book, cases, numbers[0]), "by", "never")
    if word == "meet":
        return shown(meet(book, cases, numbers[0], numbers[1]), "by", "never")
    tree, paper = least_tree(book, cases)
    return str(depth(tree))


def moved_cases(book, word, cases, numbers):
    """The cases that come of a move."""
    if word == "drop":
        return left_out(book, cases, numbers[0])
    if word == "swap":
        return exchanged(book, cases, numbers[0])
    if word == "move":
        return moved(book, cases, numbers[0], numbers[1])
    if word == "merge":
        return merged(book, cases, numbers[0])
    if word == "part":
        return parted(book, cases, numbers[0])
    fresh, old_numbers = tidied(book, cases)
    return fresh


class Desk:
    """A book, and cases under names, each with those that stood ahead of its moves."""

    def __init__(self, text):
        self.book = read_book(text)
        # By its name a list of cases: the last ones stand, the others are taken back to.
        self.kept = {}

    def say(self, row):
        """The answer to a row."""
        word, names, numbers, text = deed_of(row)
        if word == "keep":
            self.kept[names[0]] = [read_cases(self.book, text)]
            return self.count_text(names[0])
        if word == "names":
            return " ".join(sorted(self.kept)) if self.kept else "-"
        cases = [self.standing(name) for name in names]
        if word in MOVES:
            self.kept[names[0]].append(moved_cases(self.book, word, cases[0], numbers))
            return self.count_text(names[0])
        if word == "undo":
            return self.undone(names[0])
        if word == "tell":
            return told_text(self.book, cases[0], text)
        if word == "alike":
            return alike_text(self.book, cases[0], cases[1])
        return asked_text(self.book, word, cases[0], numbers)

    def standing(self, name):
        """The cases that stand under a name."""
        if name not in self.kept:
            raise NoName("no cases stand under this name")
        return self.kept[name][-1]

    def count_text(self, name):
        """How many rows the cases under a name have, as a text."""
        return f"rows {len(self.standing(name)[2])}"

    def undone(self, name):
        """Takes back the last move of the cases under a name."""
        if len(self.kept[name]) == 1:
            raise NoDeed("there is no move to be taken back")
        self.kept[name].pop()
        return self.count_text(name)
