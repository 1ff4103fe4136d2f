"""Greatest boxes: lots of lines that take at each kit some of its states, whatever the other kits have."""


class Boxes:
    """Finds the greatest boxes among lines that are the bits of a number."""

    def __init__(self, counts):
        self.counts = counts
        self.known = {}

    def lines_from(self, depth):
        """How many lines the kits from an index on have."""
        lines = 1
        for count in self.counts[depth:]:
            lines = lines * count
        return lines

    def greatest(self, mask, depth):
        """The greatest boxes of lines of the kits from an index on: pairs of the states of each kit, and the lines."""
        if (depth, mask) not in self.known:
            self.known[depth, mask] = self.found(mask, depth)
        return self.known[depth, mask]

    def found(self, mask, depth):
        """What greatest finds where it has not looked before."""
        if mask == 0:
            return []
        if depth == len(self.counts):
            return [((), mask)]
        size = self.lines_from(depth + 1)
        parts = [(mask >> (size * at)) & ((1 << size) - 1) for at in range(self.counts[depth])]
        found = []
        for states, shared in shared_parts(parts):
            for box, lines in self.greatest(shared, depth + 1):
                # Where another state has the box, too, it is found with that state.
                if supports(parts, lines) == states:
                    found.append(((states,) + box, sum([lines << (size * at) for at in states])))
        return found


def supports(parts, lines):
    """The ascending tuple of the indexes of the parts that have all these lines."""
    return tuple([at for at, part in enumerate(parts) if lines & ~part == 0])


def shared_parts(parts):
    """The pairs (states, shared) of lines that some parts have in common, with all parts that have them."""
    found = []
    for lot in range(1, 1 << len(parts)):
        shared = -1
        for at, part in enumerate(parts):
            if (lot >> at) & 1:
                shared = shared & part
        states = supports(parts, shared)
        if sum([1 << at for at in states]) == lot:
            found.append((states, shared))
    return found


def greatest_clauses(space, mask):
    """The clauses of the greatest boxes among lines."""
    boxes = Boxes([len(space.choice[kit]) for kit in space.order])
    return [box_clause(space, box) for box, _ in boxes.greatest(mask, 0)]


def box_clause(space, box):
    """The clause that bars just the lines of a box."""
    return tuple([
        (kit, tuple([space.choice[kit][at] for at in states]))
        for kit, states in zip(space.order, box) if len(states) < len(space.choice[kit])])
