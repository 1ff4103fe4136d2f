"""Two ways that have no line in common but the first and the last one, found as a flow through lines."""


class Flow:
    """Ways from one line to another one; a spot is (line, 0) where they enter a line, (line, 1) where they leave it."""

    def __init__(self, roads, one, other):
        self.roads = roads
        self.start = (one, 1)
        self.goal = (other, 0)
        self.used = {}

    def onward(self, spot):
        """The spots to which one more way can go from a spot: along an arc that is not used, or back along one."""
        line, side = spot
        behind = [(later, 0) for _, later in self.roads.steps(line)] if side else [(line, 1)]
        back = [one for one, other in self.used if other == spot]
        return [other for other in behind if (spot, other) not in self.used] + back

    def grow(self):
        """Puts one more way in; whether there was one."""
        ahead = {self.start: None}
        waiting = [self.start]
        at = 0
        while at < len(waiting) and self.goal not in ahead:
            for spot in self.onward(waiting[at]):
                if spot not in ahead:
                    ahead[spot] = waiting[at]
                    waiting.append(spot)
            at += 1
        if self.goal not in ahead:
            return False
        spot = self.goal
        while spot != self.start:
            self.turn(ahead[spot], spot)
            spot = ahead[spot]
        return True

    def turn(self, one, other):
        """Uses an arc, or takes the way back out that is on it."""
        if (other, one) in self.used:
            del self.used[other, one]
        else:
            self.used[one, other] = True

    def ways(self):
        """The list of the ways, as lists of lines."""
        found = []
        for one, other in self.used:
            if one == self.start:
                spot, lines = other, [one[0], other[0]]
                while spot != self.goal:
                    spot = [behind for ahead, behind in self.used if ahead == spot][0]
                    if spot[1] == 0:
                        lines.append(spot[0])
                found.append(lines)
        return found


def two_apart(roads, one, other):
    """The lists of lines of two ways that share none but the first and the last one, None if there are none."""
    flow = Flow(roads, one, other)
    if one == other or not flow.grow() or not flow.grow():
        return None
    return flow.ways()
