"""Programs: procedures that call one another, one of which is the first one."""

from farapart.checks import check_arguments
from farapart.errors import BadCall, NoProc
from farapart.kinds import fits, is_name
from farapart.procedures import Procedure
from farapart.statements import is_call, with_callee


class Program:
    """Procedures by their names, and the name of the one in which runs begin."""

    def __init__(self, procedures, first):
        check_arguments([_are_procedures(procedures), is_name(first)])
        kept = {name: procedures[name] for name in sorted(procedures)}
        _check_called(kept, first)
        _check_calls(kept)
        self._procedures = kept
        self._first = first
        self._kept = {}

    @property
    def first(self):
        """The name of the first procedure."""
        return self._first

    def names(self):
        """Return the ascending list of the names of the procedures."""
        return list(self._procedures)

    def called(self, name):
        """Return the ascending list of the procedures that a procedure calls."""
        return sorted({statement[1] for _, statement in _calls(self[name])})

    def reached(self):
        """Return the ascending list of the first procedure and all that come to be called by it."""
        return self._led_to([self._first])

    def rings(self):
        """Return the ascending list of the procedures that call themselves, perhaps through others."""
        return [name for name in self._procedures if name in self._led_to(self.called(name))]

    def with_procedure(self, name, procedure):
        """Return the Program with a procedure in the place of the one with this name, or one more."""
        return Program({**self._procedures, name: procedure}, self._first)

    def with_number(self, name, index, at, number):
        """Return the Program with another integer in a statement of a procedure."""
        return self.with_procedure(name, self[name].with_number(index, at, number))

    def renamed(self, names):
        """Return the Program with other names of procedures; names is a dict from its own to these."""
        procedures = {names[name]: _with_callees(self[name], names) for name in self._procedures}
        return Program(procedures, names[self._first])

    def kept(self, word, made):
        """Return what a function makes of the Program, which never changes; it is made once and kept by a word."""
        if word not in self._kept:
            self._kept[word] = made(self)
        return self._kept[word]

    def __getitem__(self, at):
        if not is_name(at) or at not in self._procedures:
            raise NoProc(at)
        return self._procedures[at]

    def __contains__(self, x):
        return is_name(x) and x in self._procedures

    def __iter__(self):
        raise TypeError("a program is not iterated over; take its names")

    def __len__(self):
        return len(self._procedures)

    def __eq__(self, other):
        if not isinstance(other, Program):
            return False
        return self._first == other._first and self._procedures == other._procedures

    def _led_to(self, names):
        """Return the ascending list of names and of all procedures that come to be called by them."""
        found = {}
        left = list(names)
        while left:
            name = left.pop()
            if name not in found:
                found[name] = True
                left.extend(self.called(name))
        return sorted(found)


def _are_procedures(thing):
    if not isinstance(thing, dict) or len(thing) == 0:
        return False
    return all([is_name(name) and isinstance(procedure, Procedure) for name, procedure in thing.items()])


def _calls(procedure):
    """Return the list of (index, statement) of the ways that are calls."""
    return [(index, way[2]) for index, way in enumerate(procedure.ways()) if is_call(way[2])]


def _check_called(procedures, first):
    if first not in procedures:
        raise NoProc(first)
    for procedure in procedures.values():
        for _, statement in _calls(procedure):
            if statement[1] not in procedures:
                raise NoProc(statement[1])


def _check_calls(procedures):
    for name, procedure in procedures.items():
        for index, statement in _calls(procedure):
            if not _goes_with(procedure, statement, procedures[statement[1]]):
                raise BadCall(name, index)


def _goes_with(caller, statement, callee):
    """Return whether the arguments and results of a call are as many as, and fit, those of what is called."""
    _, _, arguments, results = statement
    if len(arguments) != len(callee.params) or len(results) != len(callee.results):
        return False
    given = [fits(caller.kind(y), callee.kind(x)) for (y, _), x in zip(arguments, callee.params)]
    taken = [fits(callee.kind(y), caller.kind(x)) for y, x in zip(callee.results, results)]
    return all(given + taken)


def _with_callees(procedure, names):
    """Return a procedure whose calls go to the new names of what they call."""
    kinds = {name: procedure.kind(name) for name in procedure.names()}
    ways = [(begin, end, with_callee(statement, names)) for begin, end, statement in procedure.ways()]
    return Procedure(kinds, procedure.params, procedure.results, procedure.size, ways)
