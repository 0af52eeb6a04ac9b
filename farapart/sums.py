"""Sums: dicts from sources to integers, of which the number of a name is the greatest or the least."""


def shifted(sources, c):
    """Return the sums that are greater by c."""
    return {source: number + c for source, number in sources.items()}


def merged(kind, parts):
    """Return the dict of all sources of parts, of each the integer that counts for a name of this kind."""
    if len(parts) == 1:
        return parts[0]
    found = {}
    for sources in parts:
        for source, number in sources.items():
            known = found.get(source, number)
            found[source] = min(known, number) if kind == "low" else max(known, number)
    return {source: found[source] for source in sorted(found)}


def replaced(kind, sources, ahead):
    """Return the dict of what sources come of by the dicts ahead; a source that is not in ahead stays."""
    return merged(kind, [shifted(ahead.get(source, {source: 0}), number) for source, number in sources.items()])


def powered(thing, many, joined):
    """Return what comes of many times the same thing, joined one to another; many is 1 or more."""
    found = None
    square = thing
    left = many
    while left > 0:
        if left % 2 == 1:
            found = square if found is None else joined(found, square)
        left //= 2
        if left > 0:
            square = joined(square, square)
    return found
