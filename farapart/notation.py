"""Notation: programs, facts, claims and deeds as texts.

What is read is shown again: so it is just the texts that are ever shown that can be read.
"""

from farapart.deeds import CLAIM, PARTS
from farapart.errors import ApartError, NoText
from farapart.facts import Facts
from farapart.procedures import Procedure
from farapart.programs import Program
from farapart.statements import is_statement
from farapart.words import joined, parted_at, read_count, read_part, read_words, show_part, show_word


def show_statement(statement):
    """Return the text of a statement."""
    word = statement[0]
    if word == "skip":
        return word
    if word == "set":
        return "set " + joined([f"{x}={show_part(y, c)}" for x, y, c in statement[1]], " ")
    parts = [show_part(y, c) for y, c in statement[2]]
    if word == "call":
        return " ".join([word, statement[1], joined(parts, ","), joined(statement[3], ",")])
    return " ".join([word, statement[1]] + parts)


def show_procedure(procedure):
    """Return the text of a procedure."""
    kinds = [f"{name}:{procedure.kind(name)}" for name in procedure.names()]
    lines = [
        "names " + joined(kinds, " "),
        "params " + joined(procedure.params, ","),
        "results " + joined(procedure.results, ","),
        f"places {procedure.size}",
    ]
    return "\n".join(lines + [_show_way(begin, end, statement) for begin, end, statement in procedure.ways()])


def show_program(program):
    """Return the text of a program."""
    lines = [f"first {program.first}"]
    for name in program.names():
        lines += [f"procedure {name}", show_procedure(program[name])]
    return "\n".join(lines)


def show_facts(facts):
    """Return the text of Facts."""
    return "\n".join(["names " + joined(facts.names(), " ")] + [_show_words(bound) for bound in facts.bounds()])


def show_claim(claim):
    """Return the text of a claim."""
    return _show_words(claim)


def show_deed(deed):
    """Return the text of a deed."""
    if deed[0] == "way":
        word, name, begin, end, statement = deed
        return f"{word} {name} {_show_way(begin, end, statement)}"
    return _show_words(deed[:1] + deed[1] if deed[0] == "claim" else deed)


def read_statement(text):
    """Return the frozen statement of a text."""
    statement = _statement_of(text.split(" "))
    if not is_statement(statement):
        raise NoText()
    _check_same(text, show_statement(statement))
    return statement


def read_procedure(text):
    """Return the Procedure of a text."""
    procedure = _procedure_of(text.split("\n"))
    _check_same(text, show_procedure(procedure))
    return procedure


def read_program(text):
    """Return the Program of a text."""
    lines = text.split("\n")
    first = _behind(lines[0], "first")
    blocks = _blocks(lines[1:])
    program = _made_program([(_behind(block[0], "procedure"), _procedure_of(block[1:])) for block in blocks], first)
    _check_same(text, show_program(program))
    return program


def read_facts(text):
    """Return the Facts of a text."""
    lines = text.split("\n")
    facts = [read_words(line.split(" "), ("source", "source", "integer")) for line in lines[1:]]
    found = _made_facts(parted_at(_behind(lines[0], "names"), " "), facts)
    _check_same(text, show_facts(found))
    return found


def read_claim(text):
    """Return the claim of a text."""
    return read_words(text.split(" "), CLAIM)


def read_deed(text):
    """Return the deed of a text, its statement frozen."""
    words = text.split(" ")
    word = words[0]
    if word not in PARTS:
        raise NoText()
    if word == "claim":
        return (word, read_words(words[1:], CLAIM))
    if word == "way":
        return (word,) + read_words(words[1:4], PARTS[word]) + (read_statement(" ".join(words[4:])),)
    return (word,) + read_words(words[1:], PARTS[word])


def _show_words(things):
    return " ".join([show_word(thing) for thing in things])


def _show_way(begin, end, statement):
    return f"{begin} {end} {show_statement(statement)}"


def _check_same(text, shown):
    if text != shown:
        raise NoText()


def _behind(line, word):
    """Return what stands behind the first word of a line, which is to be this one."""
    first, _, rest = line.partition(" ")
    if first != word:
        raise NoText()
    return rest


def _statement_of(words):
    """Return what the words of a statement tell, which is not quite sure to be one."""
    word = words[0]
    if word == "skip":
        return ("skip",)
    if word == "set":
        return (word, tuple([_setting_of(part) for part in parted_at(" ".join(words[1:]), " ")]))
    if word == "call" and len(words) == 4:
        parts = [read_part(part) for part in parted_at(words[2], ",")]
        return (word, words[1], tuple(parts), tuple(parted_at(words[3], ",")))
    if word in ("most", "least") and len(words) > 2:
        return (word, words[1], tuple([read_part(part) for part in words[2:]]))
    raise NoText()


def _setting_of(word):
    x, _, part = word.partition("=")
    return (x,) + read_part(part)


def _procedure_of(lines):
    """Return the Procedure that lines tell of; they may still be other ones than are shown of it."""
    if len(lines) < 4:
        raise NoText()
    kinds = [word.partition(":") for word in parted_at(_behind(lines[0], "names"), " ")]
    params = parted_at(_behind(lines[1], "params"), ",")
    results = parted_at(_behind(lines[2], "results"), ",")
    size = read_count(_behind(lines[3], "places"))
    ways = [_way_of(line.split(" ")) for line in lines[4:]]
    try:
        return Procedure({name: kind for name, _, kind in kinds}, params, results, size, ways)
    except ApartError:
        raise NoText()


def _way_of(words):
    begin, end = read_words(words[:2], ("count", "count"))
    return (begin, end, read_statement(" ".join(words[2:])))


def _blocks(lines):
    """Return the list of lists of lines, each of which begins with that of the name of a procedure."""
    found = []
    for line in lines:
        if line.startswith("procedure "):
            found.append([line])
        elif found:
            found[-1].append(line)
        else:
            raise NoText()
    return found


def _made_program(procedures, first):
    try:
        return Program({name: procedure for name, procedure in procedures}, first)
    except ApartError:
        raise NoText()


def _made_facts(names, facts):
    try:
        return Facts(names, facts)
    except ApartError:
        raise NoText()
