"""Ways between sound sets, step by step: the shortest ones, heights that show that none is shorter, and isles."""

from kitwright.checks import check_index, check_roots, is_line_of, is_state_pair
from kitwright.errors import BadStep, BadWay
from kitwright.registries import check_registry
from kitwright.roads import (
    is_shut_lot, line_on, numbered_way, roads_of, set_on, shortest_way, shuts_off, way_counts)
from kitwright.sets import check_sound
from kitwright.values import is_list, is_number

NO_WAY = 1000000000


def steps_at(registry, roots, chosen):
    """The ascending list of the steps that can be made at a sound set."""
    check_sound(registry, roots, chosen)
    roads = roads_of(registry, roots)
    return [step for step, _ in roads.steps(line_on(roads, chosen))]


def line_behind(registry, roads, line, value):
    """The line to which any value as a step leads, None if it can not be made."""
    if not is_state_pair(registry, value):
        return None
    for step, later in roads.steps(line):
        if step == value:
            return later
    return None


def stepped(registry, roots, chosen, step):
    """The set behind a step."""
    check_sound(registry, roots, chosen)
    roads = roads_of(registry, roots)
    later = line_behind(registry, roads, line_on(roads, chosen), step)
    if later is None:
        raise BadStep("a step that can be made is wanted")
    return set_on(roads, later)


def way_lines(registry, roads, one, way):
    """The list of the lines of a way from a set, from the first one to the last one."""
    if not is_list(way):
        raise BadWay(None)
    lines = [line_on(roads, one)]
    for at, step in enumerate(way):
        later = line_behind(registry, roads, lines[-1], step)
        if later is None:
            raise BadWay(at)
        lines.append(later)
    return lines


def passed(registry, roots, one, way):
    """The list of the sets of a way, from the first one to the last one."""
    check_sound(registry, roots, one)
    roads = roads_of(registry, roots)
    return [set_on(roads, line) for line in way_lines(registry, roads, one, way)]


def check_both(registry, roots, one, other):
    """Refuses what is no registry, what are no roots, and what are no two sound sets, in this order."""
    check_sound(registry, roots, one)
    check_sound(registry, roots, other)


def is_way(registry, roots, one, other, value):
    """Whether any value is a way from one set to the other."""
    check_both(registry, roots, one, other)
    roads = roads_of(registry, roots)
    try:
        lines = way_lines(registry, roads, one, value)
    except BadWay:
        return False
    return lines[-1] == line_on(roads, other)


def far(registry, roots, one, other):
    """The least number of steps of a way, None if there is none."""
    way = first_way(registry, roots, one, other)
    return None if way is None else len(way)


def first_way(registry, roots, one, other):
    """The least of the ways with the fewest steps, None if there is none."""
    check_both(registry, roots, one, other)
    roads = roads_of(registry, roots)
    return shortest_way(roads, line_on(roads, one), line_on(roads, other))


def ways_count(registry, roots, one, other):
    """How many ways with the fewest steps there are."""
    check_both(registry, roots, one, other)
    roads = roads_of(registry, roots)
    counts = way_counts(roads, roads.distances(line_on(roads, other)))
    return counts.get(line_on(roads, one), 0)


def way_at(registry, roots, one, other, number):
    """The one with an index of the ways with the fewest steps, ascending."""
    check_index(number, ways_count(registry, roots, one, other))
    roads = roads_of(registry, roots)
    return numbered_way(roads, roads.distances(line_on(roads, other)), line_on(roads, one), number)


def heights_to(registry, roots, other):
    """How far each sound set is from one, 10 ** 9 where no way leads to it."""
    check_sound(registry, roots, other)
    roads = roads_of(registry, roots)
    distances = roads.distances(line_on(roads, other))
    return {line: distances.get(line, NO_WAY) for line in roads.there}


def is_number_dict(registry, roads, value):
    """Whether any value is a dict from just the lines that are there to numbers from 0 on."""
    if not isinstance(value, dict) or len(value) != len(roads.there):
        return False
    return all([
        is_line_of(registry, line) and line in roads.there and is_number(number) and number >= 0
        for line, number in value.items()])


def are_heights(registry, roots, other, value):
    """Whether any value is heights to a set."""
    check_sound(registry, roots, other)
    roads = roads_of(registry, roots)
    if not is_number_dict(registry, roads, value) or value[line_on(roads, other)] != 0:
        return False
    return all([value[line] <= value[later] + 1 for line in roads.there for _, later in roads.steps(line)])


def isles(registry, roots):
    """The ascending list of the isles, each the ascending list of its lines."""
    check_registry(registry)
    check_roots(roots)
    roads = roads_of(registry, roots)
    found = []
    known = {}
    for line in roads.there:
        if line not in known:
            isle = sorted(roads.distances(line))
            found.append(isle)
            for other in isle:
                known[other] = True
    return found


def is_shut(registry, roots, value):
    """Whether any value is a list of different lines of sound sets with all lines to which steps lead from there."""
    check_registry(registry)
    check_roots(roots)
    return is_shut_lot(registry, roads_of(registry, roots), value)


def isle_paper(registry, roots, one, other):
    """A shut list with the line of one set and without that of the other, None if there is a way."""
    check_both(registry, roots, one, other)
    roads = roads_of(registry, roots)
    isle = sorted(roads.distances(line_on(roads, one)))
    return None if line_on(roads, other) in isle else isle


def is_isle_paper(registry, roots, one, other, value):
    """Whether any value is a shut list with the line of one set and without that of the other."""
    check_both(registry, roots, one, other)
    roads = roads_of(registry, roots)
    return shuts_off(registry, roads, line_on(roads, one), line_on(roads, other), value)
