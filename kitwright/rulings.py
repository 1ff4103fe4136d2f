"""Rulings, which show all quarrels and all gifts at once; what demands leave, and which gifts are cheapest."""

from kitwright.checks import check_index, check_kit, is_set_of
from kitwright.clauses import given_clauses
from kitwright.derivers import derived
from kitwright.errors import BadPrices
from kitwright.lots import least_lots, least_meeting
from kitwright.quarrels import check_demands, demand_clause, gifts, is_lot_of, meeting_lines, meets, quarrels
from kitwright.refuting import shows
from kitwright.sets import is_sound
from kitwright.spaces import Space
from kitwright.values import is_list, is_number, is_tuple_of


def lot_clauses(registry, demands, lot):
    """The given clauses without roots, and behind them those of the demands of a lot."""
    told = [demand_clause(registry, demands[index]) for index in lot]
    return given_clauses(registry, {}) + [clause for clause in told if clause is not None]


def meeting_others(space, demands, lot):
    """The lines of the closed sets that meet all demands but perhaps those of a lot."""
    found = space.closed()
    for index, demand in enumerate(demands):
        if index not in lot:
            found = found & meeting_lines(space, demand)
    return found


def ruling(registry, demands):
    """All quarrels, each with a refutation, and all gifts, each with a closed set that meets the other demands."""
    check_demands(registry, demands)
    space = Space(registry)
    against = [(lot, derived(space, lot_clauses(registry, demands, lot), ())) for lot in quarrels(registry, demands)]
    free = [(lot, space.first_set(meeting_others(space, demands, lot))) for lot in gifts(registry, demands)]
    return against, free


def is_refuted_lot(registry, demands, value):
    """Whether any value is a pair of a lot and a refutation that shows that it quarrels."""
    if not is_tuple_of(value, 2) or not is_lot_of(len(demands), value[0]):
        return False
    return shows(registry, lot_clauses(registry, demands, value[0]), (), value[1])


def is_freeing_lot(registry, demands, value):
    """Whether any value is a pair of a lot and a closed set that meets all other demands."""
    if not is_tuple_of(value, 2) or not is_lot_of(len(demands), value[0]) or not is_set_of(registry, value[1]):
        return False
    lot, chosen = value
    return is_sound(registry, {}, chosen) and all(
        [index in lot or meets(chosen, demand) for index, demand in enumerate(demands)])


def are_apart(lots):
    """Whether no lot stands twice, and none has all indexes of another one."""
    return len(least_lots(sorted(lots, key=len))) == len(lots)


def is_ruling(registry, demands, value):
    """Whether any value is a ruling, its lists in whatever order."""
    check_demands(registry, demands)
    if not is_tuple_of(value, 2) or not is_list(value[0]) or not is_list(value[1]):
        return False
    against, free = value
    if not all([is_refuted_lot(registry, demands, pair) for pair in against]):
        return False
    if not all([is_freeing_lot(registry, demands, pair) for pair in free]):
        return False
    lots = [lot for lot, _ in against]
    # The least meeting lots are apart from one another, so those of free are, too.
    return are_apart(lots) and sorted([lot for lot, _ in free]) == sorted(least_meeting(lots, len(demands)))


def left_states(registry, demands, kit):
    """The ascending tuple of the states of a kit in the closed sets that meet all demands."""
    check_demands(registry, demands)
    check_kit(registry, kit)
    space = Space(registry)
    left = meeting_others(space, demands, ())
    return tuple([state for state in space.choice[kit] if left & space.bits[kit, state]])


def stand_ins(registry, demands, index):
    """The versions that can stand for the range of a want; those that can be barred besides, for a bar."""
    check_demands(registry, demands)
    check_index(index, len(demands))
    word, kit, _ = demands[index]
    space = Space(registry)
    left = meeting_others(space, demands, (index,))
    versions = space.choice.get(kit, ())[1:]
    return tuple([version for version in versions if bool(left & space.bits[kit, version]) == (word == "want")])


def check_demand_prices(demands, prices):
    """Refuses what is no list of as many numbers from 0 on as there are demands."""
    if not is_list(prices) or len(prices) != len(demands) or not all(
            [is_number(price) and price >= 0 for price in prices]):
        raise BadPrices("a list of a number from 0 on for each demand is wanted")


def cheapest_gifts(registry, demands, prices):
    """The least price of a gift, and the list of all gifts with this price."""
    check_demands(registry, demands)
    check_demand_prices(demands, prices)
    lots = gifts(registry, demands)
    costs = [sum([prices[index] for index in lot]) for lot in lots]
    least = min(costs)
    return least, [lot for lot, cost in zip(lots, costs) if cost == least]
