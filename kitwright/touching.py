"""Which kits ways touch and which sets they pass: lots that do and that bar, narrows, and ways apart."""

from kitwright.apart import two_apart
from kitwright.checks import check_lot
from kitwright.lots import all_lots, least_lots, least_meeting, lots_at
from kitwright.roads import line_on, lines_passed, moving, roads_of, shortest_way, shuts_off, standing
from kitwright.sets import check_sound
from kitwright.ways import check_both


def way_within(registry, roots, one, other, lot):
    """A way with as few steps as can be that touches kits of a lot alone, None if there is none."""
    check_both(registry, roots, one, other)
    check_lot(registry.kits, lot)
    roads = moving(roads_of(registry, roots), lot)
    return shortest_way(roads, line_on(roads, one), line_on(roads, other))


def doing_indexes(registry, roots, one, other):
    """The least lots that do, as lots of indexes of kits, shorter first, then ascending."""
    roads = roads_of(registry, roots)
    start, goal = line_on(roads, one), line_on(roads, other)
    lots = all_lots(len(registry.kits))
    return least_lots([
        lot for lot, kits in zip(lots, lots_at(registry.kits, lots)) if goal in moving(roads, kits).distances(start)])


def doing_lots(registry, roots, one, other):
    """The list of the least lots of kits that some way needs to touch, shorter first, then ascending."""
    check_both(registry, roots, one, other)
    return lots_at(registry.kits, doing_indexes(registry, roots, one, other))


def barring_lots(registry, roots, one, other):
    """The list of the least lots of kits of which each way touches one, shorter first, then ascending."""
    check_both(registry, roots, one, other)
    doing = doing_indexes(registry, roots, one, other)
    return lots_at(registry.kits, least_meeting(doing, len(registry.kits)))


def stillness(registry, roots, one, other, lot):
    """The lines to which steps of kits of a lot lead from one set, None if the other one is among them."""
    check_both(registry, roots, one, other)
    check_lot(registry.kits, lot)
    roads = moving(roads_of(registry, roots), lot)
    lines = sorted(roads.distances(line_on(roads, one)))
    return None if line_on(roads, other) in lines else lines


def is_stillness(registry, roots, one, other, lot, value):
    """Whether any value shows that a lot does not do."""
    check_both(registry, roots, one, other)
    check_lot(registry.kits, lot)
    roads = moving(roads_of(registry, roots), lot)
    return shuts_off(registry, roads, line_on(roads, one), line_on(roads, other), value)


def without(roads, line):
    """The roads without a line."""
    return standing(roads, [other for other in roads.there if other != line])


def narrows(registry, roots, one, other):
    """The list of the lines between that each way passes, in their order, None without a way."""
    check_both(registry, roots, one, other)
    roads = roads_of(registry, roots)
    start, goal = line_on(roads, one), line_on(roads, other)
    way = shortest_way(roads, start, goal)
    if way is None:
        return None
    # Each narrow stands on each way, so on this one, which begins with start and ends with goal.
    between = lines_passed(roads, start, way)[1:-1]
    return [line for line in between if goal not in without(roads, line).distances(start)]


def way_round(registry, roots, one, other, chosen):
    """A way with as few steps as can be that does not pass a set, None if there is none."""
    check_both(registry, roots, one, other)
    check_sound(registry, roots, chosen)
    roads = roads_of(registry, roots)
    start, goal, avoided = line_on(roads, one), line_on(roads, other), line_on(roads, chosen)
    if avoided in (start, goal):
        return None
    return shortest_way(without(roads, avoided), start, goal)


def way_of(roads, lines):
    """The way that passes some lines."""
    return [
        step for line, later in zip(lines, lines[1:]) for step, behind in roads.steps(line) if behind == later]


def ways_apart(registry, roots, one, other):
    """A pair of unlike ways that share no set but one and other, None if there are none."""
    check_both(registry, roots, one, other)
    roads = roads_of(registry, roots)
    found = two_apart(roads, line_on(roads, one), line_on(roads, other))
    return None if found is None else (way_of(roads, found[0]), way_of(roads, found[1]))
