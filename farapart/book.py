"""Books: a program, facts and claims, and what was done to them, which can be undone."""

from farapart.claims import broken
from farapart.deeds import after_deed, frozen_deed, is_deed
from farapart.errors import Full, NoDeed, NoEntry, Nothing
from farapart.spots import check_spots
from farapart.weakest import weakest

MOST_DEEDS = 100


class Book:
    """A program and facts with which it begins, and a log of deeds.

    A state is a tuple (program, facts, claims), an entry a tuple (deed, state) of a deed and what came of it.
    No state and no list of entries is ever changed; there come new ones instead, so that old ones may be kept.
    """

    def __init__(self, program, facts):
        check_spots(program, facts, [])
        self._begun = (program, facts, ())
        self._entries = ()
        self._undone = ()

    @property
    def program(self):
        """The program as it is now."""
        return self._state()[0]

    @property
    def facts(self):
        """The facts as they are now."""
        return self._state()[1]

    def do(self, deed):
        """Do a deed, any value, and return the ascending list of the indexes of the claims that do not hold then."""
        if not is_deed(deed):
            raise NoDeed()
        if len(self._entries) >= MOST_DEEDS:
            raise Full(MOST_DEEDS)
        kept = frozen_deed(deed)
        self._entries = self._entries + ((kept, after_deed(self._state(), kept)),)
        self._undone = ()
        return self.broken()

    def back(self):
        """Undo the last deed and return it."""
        if len(self._entries) == 0:
            raise Nothing()
        entry = self._entries[-1]
        self._entries = self._entries[:-1]
        self._undone = self._undone + (entry,)
        return entry[0]

    def again(self):
        """Do the deed again that was undone last, and return it."""
        if len(self._undone) == 0:
            raise Nothing()
        entry = self._undone[-1]
        self._undone = self._undone[:-1]
        self._entries = self._entries + (entry,)
        return entry[0]

    def past(self, many):
        """Return a new Book that has done the first many deeds of the log."""
        if not 0 <= many <= len(self._entries):
            raise NoEntry(many)
        return self._with(self._entries[:many], ())

    def copied(self):
        """Return a Book in the same state, with what was undone."""
        return self._with(self._entries, self._undone)

    def claims(self):
        """Return the list of the claims."""
        return list(self._state()[2])

    def log(self):
        """Return the list of the deeds."""
        return [deed for deed, _ in self._entries]

    def broken(self):
        """Return the ascending list of the indexes of the claims that do not hold."""
        program, facts, claims = self._state()
        return broken(program, facts, claims)

    def weakest(self):
        """Return the Facts that just those starts keep from which all claims hold, or None."""
        program, _, claims = self._state()
        return weakest(program, claims)

    def trial(self, act):
        """Return what act returns of the Book itself; what it does to the Book is undone, also behind an error."""
        entries, undone = self._entries, self._undone
        try:
            return act(self)
        finally:
            self._entries, self._undone = entries, undone

    def __len__(self):
        return len(self._entries)

    def __eq__(self, other):
        return isinstance(other, Book) and self._begun == other._begun and self.log() == other.log()

    def _state(self):
        return self._entries[-1][1] if len(self._entries) > 0 else self._begun

    def _with(self, entries, undone):
        """Return a Book with the same beginning and other entries."""
        program, facts, _ = self._begun
        book = Book(program, facts)
        book._entries = entries
        book._undone = undone
        return book
