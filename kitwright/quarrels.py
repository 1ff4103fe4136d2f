"""Quarrels of demands, and gifts: what to give up so that the rest can be met."""

from kitwright.checks import check_number, check_roots, check_set
from kitwright.clauses import root_clause, versions_in
from kitwright.errors import BadDemands, BadLots, BadNumber
from kitwright.lots import all_lots, least_lots, least_meeting
from kitwright.ranges import Range, copied_range, is_kit
from kitwright.registries import check_registry
from kitwright.spaces import Space
from kitwright.values import is_index, is_list, is_rising, is_tuple_of

MOST_DEMANDS = 7
MOST_LOTS = 40


def is_demand(value):
    """Whether any value is a triple of "want" or "bar", a kit and a Range."""
    return is_tuple_of(value, 3) and value[0] in ("want", "bar") and is_kit(value[1]) and isinstance(value[2], Range)


def check_demands(registry, demands):
    """Refuses what is no registry, and what is no list of at most 7 demands."""
    check_registry(registry)
    if not is_list(demands) or len(demands) > MOST_DEMANDS:
        raise BadDemands(None)
    for at, demand in enumerate(demands):
        if not is_demand(demand):
            raise BadDemands(at)


def meets(chosen, demand):
    """Whether a set meets a demand."""
    word, kit, ranged = demand
    return (kit in chosen and chosen[kit] in ranged) == (word == "want")


def met_by(registry, demands, chosen):
    """The ascending tuple of the indexes of the demands that a set meets, sound or not."""
    check_demands(registry, demands)
    check_set(registry, chosen)
    return tuple([index for index, demand in enumerate(demands) if meets(chosen, demand)])


def demand_clause(registry, demand):
    """The clause of a demand, None if every set meets it, () if none does."""
    word, kit, ranged = demand
    if word == "want":
        return root_clause(registry, kit, ranged)
    barred = versions_in(registry, kit, ranged)
    return ((kit, barred),) if barred else None


def demand_clauses(registry, demands):
    """The list of the clauses of the demands, None for a demand that every set meets."""
    check_demands(registry, demands)
    return [demand_clause(registry, demand) for demand in demands]


def demands_of(roots):
    """The list of the wants of the roots, ascending by their kits."""
    check_roots(roots)
    return [("want", kit, copied_range(roots[kit])) for kit in sorted(roots)]


def meeting_lines(space, demand):
    """The lines of the sets that meet a demand."""
    word, kit, ranged = demand
    found = space.within(kit, ranged)
    return found if word == "want" else space.whole & ~found


def possible_lots(registry, demands):
    """The list of the lots that some closed set meets, shorter first, then ascending."""
    space = Space(registry)
    closed = space.closed()
    met = [meeting_lines(space, demand) for demand in demands]
    found = []
    for lot in all_lots(len(demands)):
        mask = closed
        for index in lot:
            mask = mask & met[index]
        if mask:
            found.append(lot)
    return found


def quarrels(registry, demands):
    """The list of the least lots that no closed set meets, shorter first, then ascending."""
    check_demands(registry, demands)
    possible = possible_lots(registry, demands)
    return least_lots([lot for lot in all_lots(len(demands)) if lot not in possible])


def gifts(registry, demands):
    """The list of the least lots without which all other demands are possible, shorter first, then ascending."""
    check_demands(registry, demands)
    many = len(demands)
    possible = possible_lots(registry, demands)
    rests = [tuple([index for index in range(many) if index not in lot]) for lot in all_lots(many)]
    return least_lots([lot for lot, rest in zip(all_lots(many), rests) if rest in possible])


def is_lot_of(many, value):
    """Whether any value is an ascending tuple of different indexes, each less than a number."""
    return isinstance(value, tuple) and all([is_index(index, many) for index in value]) and is_rising(value)


def meeting_lots(lots, many):
    """The list of the least lots that have an index of each of some lots, shorter first, then ascending."""
    check_number(many)
    if many > MOST_DEMANDS:
        raise BadNumber("a number from 0 to 7 is wanted")
    if not is_list(lots) or len(lots) > MOST_LOTS:
        raise BadLots(None)
    for at, lot in enumerate(lots):
        if not is_lot_of(many, lot):
            raise BadLots(at)
    return least_meeting(lots, many)
