"""What constructors ask of values of any kind before they take them."""

from farapart.errors import Wrong
from farapart.kinds import is_name


def check_arguments(rights):
    """Raise Wrong for the first argument that is not right; rights has a truth for each."""
    for place, right in enumerate(rights):
        if not right:
            raise Wrong(place)


def is_row(thing):
    """Return whether thing, any value, is a list or a tuple."""
    return isinstance(thing, (list, tuple))


def are_names(thing):
    """Return whether thing, any value, is a list or a tuple of different names."""
    if not is_row(thing) or not all([is_name(item) for item in thing]):
        return False
    return len({item for item in thing}) == len(thing)
