"""Roads: lines of sets, and the steps between those that are there, as far as kits may be moved."""

from kitwright.checks import is_line_of
from kitwright.spaces import Space
from kitwright.values import is_list


class Roads:
    """Some lines of a space, and the steps of some kits that lead from one of them to another one."""

    def __init__(self, space, lines, moved):
        self.space = space
        self.there = {line: True for line in lines}
        self.moved = moved
        self.places = [(place, kit) for place, kit in enumerate(space.order) if kit in moved]

    def steps(self, line):
        """The ascending list of the pairs (step, line) of the steps from a line, and where each leads."""
        found = []
        for place, kit in self.places:
            for state in self.space.choice[kit]:
                later = line[:place] + (state,) + line[place + 1:]
                if later != line and later in self.there:
                    found.append(((kit, state), later))
        return found

    def distances(self, start):
        """The dict from the lines to which ways lead from one to the least numbers of steps, the nearest ones first."""
        found = {start: 0}
        waiting = [start]
        at = 0
        while at < len(waiting):
            line = waiting[at]
            for _, later in self.steps(line):
                if later not in found:
                    found[later] = found[line] + 1
                    waiting.append(later)
            at += 1
        return found


def roads_of(registry, roots):
    """The roads of all sound sets, with all kits."""
    space = Space(registry)
    return Roads(space, [space.lines[at] for at in space.indexes(space.sound(roots))], registry.kits)


def moving(roads, lot):
    """The roads on which kits of a lot alone are moved."""
    return Roads(roads.space, list(roads.there), lot)


def standing(roads, lines):
    """The roads with some of their lines alone."""
    return Roads(roads.space, lines, roads.moved)


def set_on(roads, line):
    """The set with a line."""
    return {kit: state for kit, state in zip(roads.space.order, line) if state != ()}


def line_on(roads, chosen):
    """The line of a set."""
    return tuple([chosen.get(kit, ()) for kit in roads.space.order])


def way_counts(roads, distances):
    """For each line how many ways of the fewest steps lead to the one from which distances are told."""
    counts = {}
    for line in distances:
        nearer = [counts[later] for _, later in roads.steps(line) if distances[later] < distances[line]]
        counts[line] = sum(nearer) if nearer else 1
    return counts


def numbered_way(roads, distances, line, number):
    """The way with an index of the shortest ones, ascending, to the line from which distances are told."""
    counts = way_counts(roads, distances)
    way = []
    while distances[line] > 0:
        for step, later in [pair for pair in roads.steps(line) if distances[pair[1]] < distances[line]]:
            if number < counts[later]:
                way.append(step)
                line = later
                break
            number -= counts[later]
    return way


def shortest_way(roads, line, goal):
    """The least of the shortest ways from a line to another one, None if there is none."""
    distances = roads.distances(goal)
    if line not in distances:
        return None
    way = []
    while line != goal:
        step, line = [pair for pair in roads.steps(line) if distances[pair[1]] < distances[line]][0]
        way.append(step)
    return way


def lines_passed(roads, line, way):
    """The list of the lines of a way, from its first one to its last one."""
    found = [line]
    for kit, state in way:
        place = roads.space.order.index(kit)
        found.append(found[-1][:place] + (state,) + found[-1][place + 1:])
    return found


def is_shut_lot(registry, roads, value):
    """Whether any value is a list of different lines that are there, with all to which steps lead from them."""
    if not is_list(value) or not all([is_line_of(registry, line) and line in roads.there for line in value]):
        return False
    listed = {line: True for line in value}
    return len(listed) == len(value) and all(
        [later in listed for line in value for _, later in roads.steps(line)])


def shuts_off(registry, roads, one, other, value):
    """Whether any value is such a list with one line, and without another one."""
    return is_shut_lot(registry, roads, value) and one in value and other not in value
