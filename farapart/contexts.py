"""Contexts: whole runs with a gap in the place of the run of one call, told without what takes the gap."""

from farapart.forms import Form
from farapart.sums import replaced

# Stands ahead of the name of a result of the gap where it is told what a name comes of.
GAP = "<"


class Context:
    """A whole run of a procedure with a gap: entry is the Form in which the gap begins.

    The table tells what each name of the procedure comes of at the end: of its parameters,
    and, with GAP ahead of their names, of the results of what takes the gap.
    """

    def __init__(self, procedure, entry, table):
        self._procedure = procedure
        self.entry = entry
        self.table = table

    def within(self, other):
        """Return the Context whose gap is that of other, which takes the gap of this one."""
        table = self._taken({y: other.table[y] for y in other.table})
        return Context(self._procedure, other.entry.led(self.entry), table)

    def filled(self, run):
        """Return the Form at the end, run being that of the whole run which takes the gap."""
        return Form(self._procedure, self._taken({y: run[y] for y in run.names()}))

    def _taken(self, results):
        """Return the table with the gap taken by what has these results, told by its own parameters."""
        given = {source: self.entry[source] for source in [""] + self.entry.names()}
        inner = {GAP + y: replaced(self.entry.kind(y), sources, given) for y, sources in results.items()}
        return {x: replaced(self._procedure.kind(x), sources, inner) for x, sources in self.table.items()}


def around(procedure, ahead, statement, callee, behind):
    """Return the Context of a call: ahead of it by the parameters, behind it by the names there."""
    given = {source: ahead[source] for source in [""] + ahead.names()}
    for x, y in zip(statement[3], callee.results):
        given[x] = {GAP + y: 0}
    table = {x: replaced(procedure.kind(x), behind[x], given) for x in procedure.names()}
    return Context(procedure, ahead.entered(statement, callee), table)
