"""Paving: rows of roads that are put together from walks along arrows [see sides].

A piece is a tuple: ("step", index, place) of a way that is no call and where it leads; ("part", row, place)
of a row and where it leads; ("in", index, name) of a call and what it goes into; ("entry", row, name).
"""


class Paving:
    """Rows of roads, each there once, for runs that the Summaries of a program know."""

    def __init__(self, summaries):
        self._summaries = summaries
        self._rows = []
        self._numbers = {}
        self._runs = {}

    def rows(self):
        """Return the list of the rows."""
        return list(self._rows)

    def put(self, row):
        """Return the number of a row, which is put behind the others if it is not there."""
        if row not in self._numbers:
            self._numbers[row] = len(self._rows)
            self._rows.append(row)
        return self._numbers[row]

    def first_pieces(self, walk):
        """Return the list of the pieces of a walk whose calls go along the first runs that were found."""
        return self._pieces(walk, [self._first_key(arrow) for arrow in walk])

    def pieces(self, walk, level):
        """Return the list of the pieces of a walk whose calls go along the best runs behind a level."""
        return self._pieces(walk, [self._best_key(arrow, level) for arrow in walk])

    def run(self, passage, level):
        """Return the number of the row of the best run with a passage behind a level."""
        key = (self._summaries.found_behind(passage, level).level, "best", passage)
        self._put_runs([key])
        return self._runs[key]

    def call(self, arrow, run):
        """Return the piece along the call of an arrow with the row of a run."""
        return ("part", self.put(("call", arrow.origin[0], arrow.index, run)), arrow.goal[1])

    def part(self, name, place, pieces):
        """Return the number of the row of a part of a procedure from a place."""
        rows = []
        begin, indexes = place, []
        for word, number, end in pieces:
            if word == "step":
                indexes.append(number)
            else:
                if indexes:
                    rows.append(self.put(("steps", name, begin, tuple(indexes))))
                rows.append(number)
                begin, indexes = end, []
        if indexes or not rows:
            rows.append(self.put(("steps", name, begin, tuple(indexes))))
        whole = rows[0]
        for row in rows[1:]:
            whole = self.put(("then", whole, row))
        return whole

    def whole_run(self, name, pieces):
        """Return the number of the row of a whole run of a procedure."""
        return self.put(("run", self.part(name, 0, pieces)))

    def moment(self, name, pieces):
        """Return the number of the row of a moment from the beginning of a procedure."""
        entry, shown, own = self.entered(name, pieces)
        return self.put(("moment", entry, self.part(shown, 0, own)))

    def entered(self, name, pieces):
        """Return (entry, name, pieces): the row of an entry or None, the procedure there, and what comes then."""
        entry, at, own = None, name, []
        for piece in pieces:
            if piece[0] == "in":
                enter = self.put(("enter", self.part(at, 0, own), piece[1]))
                entry, at, own = self._deeper(entry, enter), piece[2], []
            elif piece[0] == "entry":
                entry = self._deeper(entry, piece[1])
            else:
                own.append(piece)
        return entry, at, own

    def _deeper(self, entry, other):
        return other if entry is None else self.put(("deeper", entry, other))

    def _pieces(self, walk, keys):
        self._put_runs([key for key in keys if key is not None])
        return [self._piece(arrow, key) for arrow, key in zip(walk, keys)]

    def _piece(self, arrow, key):
        if arrow.word == "call":
            return self.call(arrow, self._runs[key])
        return (arrow.word, arrow.index, arrow.goal[0] if arrow.word == "in" else arrow.goal[1])

    def _first_key(self, arrow):
        """Return the key of the run that a call goes along, if it goes along the first one that was found."""
        if arrow.passage is None:
            return None
        return (self._summaries.first_found(arrow.passage).level, "first", arrow.passage)

    def _best_key(self, arrow, level):
        """Return the key of the run that a call goes along, if it goes along the best one behind a level."""
        if arrow.passage is None:
            return None
        return (self._summaries.found_behind(arrow.passage, level).level, "best", arrow.passage)

    def _put_runs(self, keys):
        """Put the rows of runs, with those of all runs that they rest on, which were found at earlier levels."""
        wanted = {}
        left = list(keys)
        while left:
            key = left.pop()
            if key not in wanted and key not in self._runs:
                walk, inner = self._walk_of(key)
                wanted[key] = (walk, inner)
                left.extend([other for other in inner if other is not None])
        for key in sorted(wanted):
            walk, inner = wanted[key]
            pieces = [self._piece(arrow, other) for arrow, other in zip(walk, inner)]
            self._runs[key] = self.whole_run(key[2][0], pieces)

    def _walk_of(self, key):
        """Return the walk of a run, and the list of the keys of what its arrows rest on."""
        level, word, passage = key
        if word == "first":
            walk = self._summaries.first_found(passage).walk
            return walk, [self._first_key(arrow) for arrow in walk]
        walk = self._summaries.found_behind(passage, level).walk
        return walk, [self._best_key(arrow, level - 1) for arrow in walk]
