"""Words: the parts of texts, as they are written and read."""

from farapart.errors import NoText
from farapart.kinds import is_name

DIGITS = "0123456789"
MOST_DIGITS = 60
NOTHING = "-"


def show_word(thing):
    """Return the word of a name, of a source or of an integer."""
    return "0" if thing == "" else str(thing)


def show_part(y, c):
    """Return the word of a source and what is added to it."""
    return f"{show_word(y)}-{-c}" if c < 0 else f"{show_word(y)}+{c}"


def joined(words, sign):
    """Return words with a sign between them, or the sign of nothing if there are none."""
    return sign.join(words) if len(words) > 0 else NOTHING


def parted_at(text, sign):
    """Return the list of the words with a sign between them, none for the sign of nothing."""
    return [] if text == NOTHING else text.split(sign)


def read_name(word):
    """Return the name of a word."""
    if not is_name(word):
        raise NoText()
    return word


def read_source(word):
    """Return the source of a word."""
    return "" if word == "0" else read_name(word)


def read_count(word):
    """Return the integer from 0 on of a word."""
    if not 1 <= len(word) <= MOST_DIGITS or not all([letter in DIGITS for letter in word]):
        raise NoText()
    if word[0] == "0" and len(word) > 1:
        raise NoText()
    return int(word)


def read_integer(word):
    """Return the integer of a word."""
    if not word.startswith("-"):
        return read_count(word)
    if word == "-0":
        raise NoText()
    return -read_count(word[1:])


def read_part(word):
    """Return (y, c) of the word of a source and what is added to it."""
    y, plus, c = word.partition("+")
    if plus:
        return (read_source(y), read_count(c))
    y, _, c = word.partition("-")
    return (read_source(y), read_integer("-" + c))


# What reads a word, by what it is to be.
READERS = {"name": read_name, "source": read_source, "count": read_count, "integer": read_integer}


def read_words(words, wanted):
    """Return the tuple of what words tell, wanted being the list of what each is to be."""
    if len(words) != len(wanted):
        raise NoText()
    return tuple([_read_as(kind, word) for word, kind in zip(words, wanted)])


def _read_as(kind, word):
    reader = READERS[kind]
    return reader(word)
