"""Forms: the numbers of a procedure's names, told by the numbers that they come of."""

from farapart.errors import NoName
from farapart.kinds import is_source
from farapart.sums import merged, replaced, shifted


class Form:
    """What each name of a procedure comes of: a dict from sources to integers.

    The number of a name is the greatest, of a low name the least, of the sums of the
    numbers of the sources and these integers. A plain name has one source.
    """

    def __init__(self, procedure, table):
        self._procedure = procedure
        self._kinds = procedure.kinds()
        self._table = {name: table[name] for name in self._kinds}
        self._table[""] = {"": 0}

    @staticmethod
    def begin(procedure):
        """Return the Form at the beginning of a run, by the parameters."""
        return _entry(procedure, {name: {name: 0} for name in procedure.params})

    @staticmethod
    def itself(procedure):
        """Return the Form in which each name comes of itself."""
        return Form(procedure, {name: {name: 0} for name in procedure.names()})

    def names(self):
        """Return the ascending list of the names."""
        return list(self._kinds)

    def kind(self, name):
        """Return the kind of a name."""
        return self._procedure.kind(name)

    def after(self, statement):
        """Return the Form behind a statement that is no call."""
        return self.along([statement])

    def along(self, statements):
        """Return the Form behind statements that are no calls, one after another."""
        table = self._table
        for statement in statements:
            table = {**table, **_changed(self._kinds, table, statement)}
        return Form(self._procedure, table)

    def behind(self, statement, other):
        """Return the Form behind a call; other is that of a whole run, by the parameters of what is called."""
        callee = other._procedure
        given = self._given(statement, callee)
        taken = [replaced(other.kind(y), other[y], given) for y in callee.results]
        changed = {x: sources for x, sources in zip(statement[3], taken)}
        return Form(self._procedure, {**self._table, **changed})

    def entered(self, statement, procedure):
        """Return the Form of what is called at its beginning, by the sources of this Form."""
        return _entry(procedure, self._given(statement, procedure))

    def led(self, other):
        """Return the Form by the sources of other, which stands ahead and has the names that this one comes of."""
        table = {name: replaced(kind, self._table[name], other._table) for name, kind in self._kinds.items()}
        return Form(self._procedure, table)

    def numbers(self, start):
        """Return the dict from the names to their numbers; start is a dict from the sources to theirs."""
        known = {**start, "": 0}
        return {name: _number(self._kinds[name], self._table[name], known) for name in self._kinds}

    def apart(self, x, y):
        """Return the dict from (s, t), a source of x and one of y, to the integer of s less that of t."""
        lower = self[y]
        return {(s, t): a - lower[t] for s, a in self[x].items() for t in lower}

    def __getitem__(self, at):
        if not is_source(at) or at not in self._table:
            raise NoName(at)
        return {source: number for source, number in self._table[at].items()}

    def __iter__(self):
        raise TypeError("a form is not iterated over; take its names")

    def __eq__(self, other):
        return isinstance(other, Form) and self._kinds == other._kinds and self._table == other._table

    def _given(self, statement, callee):
        """Return the dict from the parameters of what is called, and the empty string, to what they come of."""
        parts = [shifted(self[y], c) for y, c in statement[2]]
        given = {name: sources for name, sources in zip(callee.params, parts)}
        given[""] = {"": 0}
        return given


def _entry(procedure, given):
    """Return the Form at the beginning of a run of a procedure whose parameters come of what is given."""
    return Form(procedure, {name: given.get(name, {"": 0}) for name in procedure.names()})


def _changed(kinds, table, statement):
    """Return the dict from the names that a statement sets to what they come of behind it."""
    word = statement[0]
    if word == "skip":
        return {}
    if word == "set":
        return {x: shifted(table[y], c) for x, y, c in statement[1]}
    x = statement[1]
    return {x: merged(kinds[x], [shifted(table[y], c) for y, c in statement[2]])}


def _number(kind, sources, known):
    sums = [known[source] + number for source, number in sources.items()]
    return min(sums) if kind == "low" else max(sums)
