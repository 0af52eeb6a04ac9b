"""Buffers: how many cells a writer and a reader need."""

from farapart.far import check_plain, far, far_in
from farapart.spots import check_spots


def ring_size(program, facts, spots):
    """Return the least n from 0 on such that x - y is always from 0 to n at each of the spots, or None."""
    check_spots(program, facts, spots)
    for spot in spots:
        check_plain(program, spot)
    size = 0
    for name, place, x, y in spots:
        ahead = far(program, facts, (name, place, x, y))
        behind = far(program, facts, (name, place, y, x))
        if ahead is not None:
            if ahead == "endless" or behind == "endless" or behind > 0:
                return None
            size = max(size, ahead)
    return size


def lead(program, facts, name, x, y):
    """Return (least, greatest) of x - y over all places of a procedure, integers or "endless", or None."""
    check_spots(program, facts, [(name, 0, x, y)])
    check_plain(program, (name, 0, x, y))
    greatest = far_in(program, facts, name, x, y)
    if greatest is None:
        return None
    behind = far_in(program, facts, name, y, x)
    return ("endless" if behind == "endless" else -behind, greatest)
