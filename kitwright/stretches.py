"""Reckoning with stretches, pairs (low, high) of versions, high being None where there is no end."""

ZERO = (0, 0, 0)


class Normal:
    """Stretches in normal form already, of which there may be more than a caller may pass."""

    def __init__(self, rows):
        self.rows = rows


def later_end(one, other):
    """The end that more versions are ahead of."""
    if one is None or other is None:
        return None
    return max(one, other)


def earlier_end(one, other):
    """The end that fewer versions are ahead of."""
    if one is None:
        return other
    if other is None:
        return one
    return min(one, other)


def normal_form(stretches):
    """The normal form of stretches in any order, which may overlap or touch."""
    found = []
    for low, high in sorted(stretches, key=lambda stretch: stretch[0]):
        if found and (found[-1][1] is None or low <= found[-1][1]):
            found[-1] = (found[-1][0], later_end(found[-1][1], high))
        else:
            found.append((low, high))
    return tuple(found)


def common(ones, others):
    """The normal form of what two normal forms both have."""
    found = []
    i = j = 0
    while i < len(ones) and j < len(others):
        low = max(ones[i][0], others[j][0])
        high = earlier_end(ones[i][1], others[j][1])
        if high is None or low < high:
            found.append((low, high))
        if high == ones[i][1]:
            i += 1
        else:
            j += 1
    return tuple(found)


def all_but(stretches):
    """The normal form of what a normal form has not."""
    found = []
    start = ZERO
    for low, high in stretches:
        if start < low:
            found.append((start, low))
        start = high
    if start is not None:
        found.append((start, None))
    return tuple(found)
