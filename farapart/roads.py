"""Roads: long runs, told by rows that use earlier rows."""

from farapart.checks import check_arguments, is_row
from farapart.errors import BadRow, NoEntry, NotSo, TooMany
from farapart.heads import frozen_row, head_of, used_rows
from farapart.kinds import is_integer
from farapart.programs import Program
from farapart.rowforms import worked_out
from farapart.tokens import steps_from, tokens_of

LONGEST_WRITTEN = 200


class Roads:
    """Rows, each of which is a part of a run, a run, a context, an entry or a moment."""

    def __init__(self, program, rows=()):
        check_arguments([isinstance(program, Program), is_row(rows)])
        self._program = program
        self._rows = []
        self._heads = []
        self._forms = {}
        for row in rows:
            self.put(row)

    def put(self, row):
        """Put a row, any value, behind the others and return its number."""
        number = len(self._rows)
        head = head_of(self._program, self._heads, row)
        if head is None:
            raise BadRow(number)
        self._rows.append(frozen_row(row))
        self._heads.append(head)
        return number

    def rows(self):
        """Return the list of the rows, with tuples for lists."""
        return list(self._rows)

    def kind(self, row):
        """Return the kind of a row: "part", "run", "context", "entry" or "moment"."""
        return self._head(row).shape

    def procedure(self, row):
        """Return the name of the procedure that a row begins in."""
        return self._head(row).owner

    def wanted(self, row):
        """Return the name of the procedure that a context or an entry wants, None for other rows."""
        return self._head(row).wants

    def ends(self, row):
        """Return the tuple of the places from which and to which a part leads, None for other rows."""
        return self._head(row).places

    def length(self, row):
        """Return the number of the ways of a row, with those within calls."""
        return self._head(row).steps

    def form(self, row):
        """Return the Form of a row that is no context."""
        self._check(row, ("part", "run", "entry", "moment"))
        return self._worked_out(row)

    def shows(self, row, start):
        """Return (name, place, numbers) of what a moment shows with a start."""
        self._check(row, ("moment",))
        part = self._heads[self._rows[row][2]]
        return (part.owner, part.places[1], self._worked_out(row).numbers(start))

    def written(self, row):
        """Return a run or a moment, if it is not too long, as a list of steps."""
        self._check(row, ("run", "moment"))
        if self.length(row) > LONGEST_WRITTEN:
            raise TooMany(LONGEST_WRITTEN)
        tokens = {}
        needed = self._needed(row, tokens)
        for index in needed:
            tokens[index] = tokens_of(self._rows[index], tokens)
        return steps_from(tokens[row][0])

    def __len__(self):
        return len(self._rows)

    def __eq__(self, other):
        return isinstance(other, Roads) and self._program == other._program and self._rows == other._rows

    def _head(self, row):
        if not is_integer(row) or not 0 <= row < len(self._heads):
            raise NoEntry(row)
        return self._heads[row]

    def _check(self, row, kinds):
        if self._head(row).shape not in kinds:
            raise NotSo(row)

    def _worked_out(self, row):
        """Return the Form or the Context of a row; each is worked out once and kept."""
        needed = self._needed(row, self._forms)
        for index in needed:
            self._forms[index] = worked_out(self._program, self._rows[index], self._heads, self._forms)
        return self._forms[row]

    def _needed(self, row, known):
        """Return the ascending list of a row and of what it uses, less what is known and what only that uses."""
        wanted = {row: True}
        for index in range(row, -1, -1):
            if index in wanted and index not in known:
                for used in used_rows(self._rows[index]):
                    wanted[used] = True
        return [index for index in sorted(wanted) if index not in known]
