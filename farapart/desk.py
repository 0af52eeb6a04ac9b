"""Desks: a book of a program, facts and claims, asked and changed by lines of text."""

from farapart.book import Book
from farapart.buffers import ring_size
from farapart.deeds import PARTS
from farapart.errors import NoCommand, NoText
from farapart.far import far
from farapart.notation import read_deed, show_claim, show_deed, show_facts, show_program
from farapart.slack import slack
from farapart.words import joined, read_words

# What stands behind the words of lines that are no deeds.
WANTED = {
    "back": (), "again": (), "log": (), "program": (), "facts": (), "claims": (), "weakest": (),
    "far": ("name", "count", "source", "source"), "slack": ("name", "count", "count"),
    "ring": ("name", "source", "source"),
}


def _deed_of(line):
    try:
        return read_deed(line)
    except NoText:
        raise NoCommand()


def _parts_of(words):
    """Return what the words behind the first one tell."""
    try:
        return read_words(words[1:], WANTED[words[0]])
    except NoText:
        raise NoCommand()


def _back(book, parts):
    return show_deed(book.back())


def _again(book, parts):
    return show_deed(book.again())


def _log(book, parts):
    return str(len(book))


def _program(book, parts):
    return show_program(book.program)


def _facts(book, parts):
    return show_facts(book.facts)


def _claims(book, parts):
    wrong = book.broken()
    lines = [show_claim(claim) + (" no" if at in wrong else " yes") for at, claim in enumerate(book.claims())]
    return joined(lines, "\n")


def _far(book, parts):
    most = far(book.program, book.facts, parts)
    return "never" if most is None else str(most)


def _slack(book, parts):
    name, index, at = parts
    found = slack(book.program, book.facts, book.claims(), name, index, at)
    return "none" if found is None else f"{found[0]} {found[1]}"


def _weakest(book, parts):
    found = book.weakest()
    return "none" if found is None else show_facts(found)


def _ring(book, parts):
    name, x, y = parts
    spots = [(name, place, x, y) for place in range(book.program[name].size)]
    found = ring_size(book.program, book.facts, spots)
    return "none" if found is None else str(found)


# What answers lines that are no deeds, by their words.
ANSWERS = {
    "back": _back, "again": _again, "log": _log, "program": _program, "facts": _facts, "claims": _claims,
    "weakest": _weakest, "far": _far, "slack": _slack, "ring": _ring,
}


class Desk:
    """A book, and what lines of text ask of it."""

    def __init__(self, program, facts):
        self._book = Book(program, facts)

    def execute(self, line):
        """Do, or answer, what a line, any value, says; return a text."""
        if not isinstance(line, str):
            raise NoCommand()
        words = line.split(" ")
        if words[0] in PARTS:
            return joined([str(index) for index in self._book.do(_deed_of(line))], ",")
        if words[0] not in WANTED:
            raise NoCommand()
        answer = ANSWERS[words[0]]
        return answer(self._book, _parts_of(words))
