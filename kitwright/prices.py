"""What ways cost, and how much room they need, with heights and papers that show that none needs less."""

from heapq import heappop, heappush

from kitwright.checks import check_roots, is_kit_of, is_version_of
from kitwright.errors import BadNumber, BadPrices, BadSizes
from kitwright.registries import check_registry
from kitwright.roads import line_on, roads_of, shortest_way, shuts_off, standing
from kitwright.sets import check_sound
from kitwright.values import is_index, is_list, is_number, is_tuple_of
from kitwright.ways import NO_WAY, check_both, is_number_dict, way_lines

MOST_PRICE = 1000
MOST_SIZE = 1000000


def is_for_all(registry, value):
    """Whether any value is a dict from just all kits of the registry."""
    return isinstance(value, dict) and len(value) == len(registry.kits) and all(
        [is_kit_of(registry, kit) for kit in value])


def is_price(value):
    """Whether any value is a triple of numbers from 0 to 1000."""
    return is_tuple_of(value, 3) and all([is_index(number, MOST_PRICE + 1) for number in value])


def check_prices(registry, prices):
    """Refuses what is no dict from all kits of the registry to prices."""
    if not is_for_all(registry, prices) or not all([is_price(price) for price in list(prices.values())]):
        raise BadPrices("a dict from all kits to triples of numbers from 0 to 1000 is wanted")


def check_priced(registry, roots, prices):
    """Refuses what is no registry, what are no roots and what are no prices, in this order."""
    check_registry(registry)
    check_roots(roots)
    check_prices(registry, prices)


def state_price(price, state, later):
    """What it costs that a kit goes from a state to another one."""
    if state == later:
        return 0
    into, out, over = price
    if state == ():
        return into
    return out if later == () else over


def line_price(roads, prices, line, later):
    """What the step from a line to the next one costs."""
    return sum([state_price(prices[kit], state, other) for kit, state, other in zip(roads.space.order, line, later)])


def way_price(registry, roots, prices, one, way):
    """The sum of the prices of the steps of a way."""
    check_priced(registry, roots, prices)
    check_sound(registry, roots, one)
    roads = roads_of(registry, roots)
    lines = way_lines(registry, roads, one, way)
    return sum([line_price(roads, prices, line, later) for line, later in zip(lines, lines[1:])])


def costs_to(roads, prices, goal):
    """For each line with a way to the goal the least pair (price, steps) of one."""
    costs = {}
    queue = [(0, 0, goal)]
    while queue:
        price, many, line = heappop(queue)
        if line not in costs:
            costs[line] = (price, many)
            for _, ahead in roads.steps(line):
                heappush(queue, (price + line_price(roads, prices, ahead, line), many + 1, ahead))
    return costs


def is_cheap(roads, prices, costs, line, later):
    """Whether a cheapest way from a line, with the fewest steps, can go to a next line."""
    price, many = costs[later]
    return costs[line] == (price + line_price(roads, prices, line, later), many + 1)


def least_way(roads, prices, line, goal):
    """The least price of a way, and the least of the ways with it and the fewest steps; None if there is none."""
    costs = costs_to(roads, prices, goal)
    if line not in costs:
        return None
    price = costs[line][0]
    way = []
    while costs[line][1] > 0:
        step, line = [pair for pair in roads.steps(line) if is_cheap(roads, prices, costs, line, pair[1])][0]
        way.append(step)
    return price, way


def cheapest_way(registry, roots, prices, one, other):
    """The least price of a way, and the least way of those with it and the fewest steps; None if there is none."""
    check_priced(registry, roots, prices)
    check_both(registry, roots, one, other)
    roads = roads_of(registry, roots)
    return least_way(roads, prices, line_on(roads, one), line_on(roads, other))


def price_heights(registry, roots, prices, other):
    """The least price of a way from each sound set to one, 10 ** 9 where there is no way."""
    check_priced(registry, roots, prices)
    check_sound(registry, roots, other)
    roads = roads_of(registry, roots)
    costs = costs_to(roads, prices, line_on(roads, other))
    return {line: costs[line][0] if line in costs else NO_WAY for line in roads.there}


def are_price_heights(registry, roots, prices, other, value):
    """Whether any value is price heights to a set."""
    check_priced(registry, roots, prices)
    check_sound(registry, roots, other)
    roads = roads_of(registry, roots)
    if not is_number_dict(registry, roads, value) or value[line_on(roads, other)] != 0:
        return False
    return all([
        value[line] <= value[later] + line_price(roads, prices, line, later)
        for line in roads.there for _, later in roads.steps(line)])


def turned(prices):
    """The prices of ways that are gone back."""
    return {kit: (out, into, over) for kit, (into, out, over) in prices.items()}


def crossing(registry, roots, later, prices, one, other):
    """The least price of a way by roots, and behind it one by later roots, with both; None if there are none."""
    check_registry(registry)
    check_roots(roots)
    check_roots(later)
    check_prices(registry, prices)
    check_sound(registry, roots, one)
    check_sound(registry, later, other)
    near, beyond = roads_of(registry, roots), roads_of(registry, later)
    start, goal = line_on(near, one), line_on(beyond, other)
    come, left = costs_to(near, turned(prices), start), costs_to(beyond, prices, goal)
    sums = [(come[line][0] + left[line][0], line) for line in come if line in left]
    if not sums:
        return None
    price, line = min(sums)
    return price, least_way(near, prices, start, line)[1], least_way(beyond, prices, line, goal)[1]


def is_sized(registry, kit, value):
    """Whether any value is a dict from just all versions of a kit to numbers from 0 to 10 ** 6."""
    if not isinstance(value, dict) or len(value) != len(registry.versions(kit)):
        return False
    return all([
        is_version_of(registry, kit, version) and is_index(number, MOST_SIZE + 1)
        for version, number in value.items()])


def check_sizes(registry, sizes):
    """Refuses what is no dict from all kits of the registry to sizes of all versions."""
    if not is_for_all(registry, sizes) or not all([is_sized(registry, kit, sizes[kit]) for kit in registry.kits]):
        raise BadSizes("a dict from all kits to dicts from all versions to numbers from 0 to 10 ** 6 is wanted")


def check_sized(registry, roots, sizes, one, other):
    """Refuses what is no registry, what are no roots, no sizes and no two sound sets, in this order."""
    check_registry(registry)
    check_roots(roots)
    check_sizes(registry, sizes)
    check_both(registry, roots, one, other)


def size_of(roads, sizes, line):
    """The sum of the sizes of what a line has."""
    return sum([sizes[kit][state] for kit, state in zip(roads.space.order, line) if state != ()])


def room_to(roads, sizes, line, goal):
    """The least number that no line on some way is beyond, None without a way."""
    known = {}
    queue = [(size_of(roads, sizes, line), line)]
    while queue:
        room, line = heappop(queue)
        if line == goal:
            return room
        if line not in known:
            known[line] = True
            for _, later in roads.steps(line):
                heappush(queue, (max(room, size_of(roads, sizes, later)), later))
    return None


def room_between(registry, roots, sizes, one, other):
    """The roads, the lines of two sets, and the least room of a way between them, None without a way."""
    check_sized(registry, roots, sizes, one, other)
    roads = roads_of(registry, roots)
    start, goal = line_on(roads, one), line_on(roads, other)
    return roads, start, goal, room_to(roads, sizes, start, goal)


def least_room(registry, roots, sizes, one, other):
    """The least number that no set on some way is beyond, and such a way; None without a way."""
    roads, start, goal, room = room_between(registry, roots, sizes, one, other)
    if room is None:
        return None
    return room, shortest_way(lighter(roads, sizes, room + 1), start, goal)


def lighter(roads, sizes, room):
    """The roads with the lines of less size alone."""
    return standing(roads, [line for line in roads.there if size_of(roads, sizes, line) < room])


def room_paper(registry, roots, sizes, one, other):
    """A room paper for the least room, None without a way."""
    roads, start, goal, room = room_between(registry, roots, sizes, one, other)
    if room is None:
        return None
    less = lighter(roads, sizes, room)
    return sorted(less.distances(start)) if start in less.there and goal in less.there else []


def is_room_paper(registry, roots, sizes, one, other, room, value):
    """Whether any value is a room paper for a number."""
    check_sized(registry, roots, sizes, one, other)
    if not is_number(room):
        raise BadNumber("a number is wanted")
    roads = roads_of(registry, roots)
    start, goal = line_on(roads, one), line_on(roads, other)
    less = lighter(roads, sizes, room)
    if start not in less.there or goal not in less.there:
        return is_list(value) and len(value) == 0
    return shuts_off(registry, less, start, goal, value)
