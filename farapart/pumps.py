"""Pumps: runs and moments of which one row, an again or a times row, makes a difference greater each time.

A pumped thing is told with a base and a gain: with the number many in that row, the
difference is at least base + many * gain.
"""


def pumped_run(paving, summaries, passage):
    """Return (run, base, gain) of the row of a run with a passage that is endless."""
    outside = []
    finding = summaries.last_found(passage)
    at = passage
    while finding.ground[0] == "arrow":
        outside.append((at, finding.ground))
        at = finding.ground[2][0].passage
        finding = summaries.found_behind(at, finding.level - 1)
    if finding.ground[0] == "ring":
        run, base, gain = _run_with_ring(paving, summaries, at, finding)
    else:
        run, base, gain = _run_in_itself(paving, summaries, at, finding)
    for caller, (_, lead, middle, tail) in outside[::-1]:
        pieces = paving.first_pieces(lead) + [paving.call(middle[0], run)] + paving.first_pieces(tail)
        run = paving.whole_run(caller[0], pieces)
        base += summaries.first_weight(lead) + middle[0].number + summaries.first_weight(tail)
    return run, base, gain


def pumped_moment(paving, summaries, name, ground):
    """Return (base, gain) of a moment whose rows are put, the ground being what makes its weight endless."""
    word, lead, middle, tail = ground
    if word == "arrow":
        run, base, gain = pumped_run(paving, summaries, middle[0].passage)
        pump = paving.call(middle[0], run)
        base += middle[0].number
    elif any([arrow.word == "in" for arrow in middle]):
        lead, middle, tail = _turned(lead, middle, tail)
        pump, base, gain = _entry_pump(paving, summaries, middle)
    else:
        pump, base, gain = _ring_pump(paving, summaries, middle, summaries.last_level())
    paving.moment(name, paving.first_pieces(lead) + [pump] + paving.first_pieces(tail))
    return base + summaries.first_weight(lead) + summaries.first_weight(tail), gain


def _ring_pump(paving, summaries, ring, level):
    """Return (piece, base, gain) of a part that goes round once, again."""
    name, place, _, _ = ring[0].origin
    part = paving.part(name, place, paving.pieces(ring, level))
    return ("part", paving.put(("again", part, 1)), place), 0, summaries.best_weight(ring, level)


def _entry_pump(paving, summaries, ring):
    """Return (piece, base, gain) of an entry that goes into where it begins, once."""
    level = summaries.last_level()
    entry, name, _ = paving.entered(ring[0].origin[0], paving.pieces(ring, level))
    return ("entry", paving.put(("times", entry, 1)), name), 0, summaries.best_weight(ring, level)


def _turned(lead, ring, tail):
    """Return a lead, a ring and a tail for the same ring, begun where it has gone into a call."""
    at = [arrow.word for arrow in ring].index("in") + 1
    return lead + ring[:at], ring[at:] + ring[:at], ring[at:] + tail


def _run_with_ring(paving, summaries, passage, finding):
    _, lead, ring, tail = finding.ground
    pump, base, gain = _ring_pump(paving, summaries, ring, finding.level - 1)
    pieces = paving.first_pieces(lead) + [pump] + paving.first_pieces(tail)
    run = paving.whole_run(passage[0], pieces)
    return run, base + summaries.first_weight(lead) + summaries.first_weight(tail), gain


def _run_in_itself(paving, summaries, passage, finding):
    """Return (run, base, gain) of a context of a passage with the same passage in its gap."""
    level = finding.level - 1
    walk = finding.ground[2]
    at, whole, gain = _context(paving, summaries, passage, walk, level)
    while walk[at].passage != passage:
        deeper = summaries.found_behind(walk[at].passage, level)
        walk, level = deeper.walk, deeper.level - 1
        at, context, more = _context(paving, summaries, passage, walk, level)
        whole = paving.put(("within", whole, context))
        gain += more
    pump = paving.put(("times", whole, 1))
    run = paving.put(("filled", pump, paving.run(passage, level)))
    return run, summaries.found_behind(passage, level).weight, gain


def _context(paving, summaries, passage, walk, level):
    """Return (at, context, gain): the index of an arrow that rests on a passage, and the row around its call."""
    rests = [_rests_on(summaries, arrow.passage, passage, level) for arrow in walk]
    at = rests.index(True)
    arrow, ahead, behind = walk[at], walk[:at], walk[at + 1:]
    name, place, _, _ = arrow.goal
    one = paving.part(name, 0, paving.pieces(ahead, level))
    other = paving.part(name, place, paving.pieces(behind, level))
    gain = summaries.best_weight(ahead, level) + arrow.number + summaries.best_weight(behind, level)
    return at, paving.put(("around", one, arrow.index, other)), gain


def _rests_on(summaries, other, passage, level):
    return other is not None and (other == passage or passage in summaries.found_behind(other, level).inside)
