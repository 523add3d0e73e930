"""Whether two values are the same, True and False being no integers."""


def _pairs_in(one, other):
    """Return the list of pairs of what stands in two values of one kind, None if they are not such, or not alike."""
    if isinstance(one, dict) and isinstance(other, dict):
        if len(one) != len(other) or not all([key in other for key in one]):
            return None
        # Keys that are equal may still be unlike, as 1 and True.
        named = {key: key for key in other}
        return [(key, named[key]) for key in one] + [(one[key], other[key]) for key in one]
    if isinstance(one, tuple) and isinstance(other, tuple) or isinstance(one, list) and isinstance(other, list):
        return list(zip(one, other)) if len(one) == len(other) else None
    return None


def is_same(one, other):
    """Whether two values are the same, with all that stands in them."""
    # No recursion: a CONDITION in a TREE may be deeper than Python's own stack.
    todo = [(one, other)]
    while todo != []:
        here, there = todo.pop()
        if isinstance(here, (dict, tuple, list)):
            pairs = _pairs_in(here, there)
            if pairs is None:
                return False
            todo.extend(pairs)
        elif isinstance(here, bool) != isinstance(there, bool) or here != there:
            return False
    return True
