"""Weakest: the least that a start has to keep so that claims hold."""

from farapart.errors import NoStart
from farapart.facts import Facts
from farapart.outer import fresh_outer
from farapart.spots import check_spot, check_spots


def weakest(program, claims):
    """Return the Facts that just those starts keep from which all claims hold, or None if there is no such start."""
    for claim in claims:
        check_spot(program, claim[:4])
    outer = program.kept("outer", fresh_outer)
    limits = []
    for claim in claims:
        for _, _, _, _, s, t, value in outer.rows_at(claim[:4]):
            if value == "endless":
                return None
            limits.append((s, t, claim[4] - value))
    return _facts_of(program[program.first].params, limits)


def needed(program, facts, told, claims):
    """Return the ascending list of the lists of indexes of told that, put to facts, are just enough for claims."""
    check_spots(program, facts, [claim[:4] for claim in claims])
    for x, y, _ in told:
        facts.greatest(x, y)  # for its errors
    wanted = weakest(program, claims)
    enough = {}
    for indexes in _choices(len(told)):
        enough[indexes] = _is_enough(facts, [told[index] for index in indexes], wanted)
    return sorted([list(indexes) for indexes in enough if enough[indexes] and not _does_with_less(enough, indexes)])


def _facts_of(names, facts):
    """Return the Facts, or None if no start keeps them."""
    try:
        return Facts(names, facts)
    except NoStart:
        return None


def _choices(many):
    """Return the list of all ascending tuples of numbers less than many."""
    found = [()]
    for index in range(many):
        found = found + [indexes + (index,) for indexes in found]
    return found


def _is_enough(facts, more, wanted):
    """Return whether all starts that keep facts, and some more of them, keep what is wanted; None is kept by none."""
    kept = _facts_of(facts.names(), facts.bounds() + more)
    return kept is None or (wanted is not None and kept.within(wanted))


def _does_with_less(enough, indexes):
    return any([enough[indexes[:at] + indexes[at + 1:]] for at in range(len(indexes))])
