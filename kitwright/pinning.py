"""Pins that sound sets honour or not: which are in one another's way, and as few given up as can be."""

from kitwright.checks import check_lot, check_number, check_roots, is_any_state, is_kit_of, is_lot_among, is_set_of
from kitwright.clauses import given_clauses
from kitwright.derivers import derived
from kitwright.errors import BadPins, BadWeights, NoSet
from kitwright.lots import all_lots, least_lots, lots_at
from kitwright.refuting import shows
from kitwright.registries import check_registry
from kitwright.sets import is_sound
from kitwright.spaces import Space
from kitwright.values import is_index, is_tuple_of

MOST_WEIGHT = 1000000


def check_pinned(registry, roots, pinned):
    """Refuses what is no registry, what are no roots, and what is no dict from kits to any states, in this order."""
    check_registry(registry)
    check_roots(roots)
    if not isinstance(pinned, dict) or not all(
            [is_kit_of(registry, kit) and is_any_state(state) for kit, state in pinned.items()]):
        raise BadPins("a dict from kits of the registry to any states is wanted")


def check_pinned_lot(registry, roots, pinned, lot):
    """Refuses, behind what are no pins, what is no lot of pinned kits."""
    check_pinned(registry, roots, pinned)
    check_lot(list(pinned), lot)


def honours(chosen, kit, state):
    """Whether a set has a state of a kit."""
    return chosen.get(kit, ()) == state


def honouring(space, roots, pinned, lot):
    """The lines of the sound sets that honour the pins of all kits outside a lot."""
    found = space.sound(roots)
    for kit, state in pinned.items():
        if kit not in lot:
            found = found & space.bits.get((kit, state), 0)
    return found


def pinned_lots(pinned):
    """The list of all lots of pinned kits, shorter first, then ascending."""
    return lots_at(sorted(pinned), all_lots(len(pinned)))


def least_of(pinned, lots):
    """Those of some lots of pinned kits, shorter ones being first, that have no other one of them within."""
    kits = sorted(pinned)
    return lots_at(kits, least_lots([tuple([kits.index(kit) for kit in lot]) for lot in lots]))


def rest_of(pinned, lot):
    """The ascending tuple of the pinned kits outside a lot."""
    return tuple([kit for kit in sorted(pinned) if kit not in lot])


def is_enough(registry, roots, pinned, lot):
    """Whether some sound set honours the pins of all kits outside a lot."""
    check_pinned_lot(registry, roots, pinned, lot)
    return honouring(Space(registry), roots, pinned, lot) != 0


def holds_of(registry, roots, pinned):
    """The list of the least lots whose pins no sound set honours all at once, shorter first, then ascending."""
    check_pinned(registry, roots, pinned)
    space = Space(registry)
    return least_of(pinned, [
        lot for lot in pinned_lots(pinned) if not honouring(space, roots, pinned, rest_of(pinned, lot))])


def least_frees(registry, roots, pinned):
    """The list of the least lots that are enough, shorter first, then ascending."""
    check_pinned(registry, roots, pinned)
    space = Space(registry)
    return least_of(pinned, [lot for lot in pinned_lots(pinned) if honouring(space, roots, pinned, lot)])


def pinned_clause(registry, kit, state):
    """The clause that bars all states of a kit but the one of a pin: () if that is none of the registry."""
    states = ((),) + registry.versions(kit)
    return ((kit, tuple([other for other in states if other != state])),) if state in states else ()


def free_clauses(registry, roots, pinned, lot):
    """The given clauses, and behind them those of the pins outside a lot."""
    return given_clauses(registry, roots) + [
        pinned_clause(registry, kit, pinned[kit]) for kit in rest_of(pinned, lot)]


def free_paper(registry, roots, pinned, lot):
    """A sound set that honours the pins outside a lot, or a refutation that shows that there is none."""
    check_pinned_lot(registry, roots, pinned, lot)
    space = Space(registry)
    chosen = space.first_set(honouring(space, roots, pinned, lot))
    if chosen is not None:
        return "set", chosen
    return "refuted", derived(space, free_clauses(registry, roots, pinned, lot), ())


def is_refuting(registry, roots, pinned, lot, value):
    """Whether any value is a refutation that shows that a lot is not enough."""
    return shows(registry, free_clauses(registry, roots, pinned, lot), (), value)


def is_freeing(registry, roots, pinned, lot, value):
    """Whether any value is a sound set that honours the pins outside a lot."""
    if not is_set_of(registry, value) or not is_sound(registry, roots, value):
        return False
    return all([honours(value, kit, pinned[kit]) for kit in rest_of(pinned, lot)])


def is_free_paper(registry, roots, pinned, lot, value):
    """Whether any value shows that a lot is enough, or that it is not."""
    check_pinned_lot(registry, roots, pinned, lot)
    if not is_tuple_of(value, 2):
        return False
    if value[0] == "set":
        return is_freeing(registry, roots, pinned, lot, value[1])
    return value[0] == "refuted" and is_refuting(registry, roots, pinned, lot, value[1])


def check_weights(registry, roots, pinned, weights):
    """Refuses, behind what are no pins, what is no dict from just the pinned kits to numbers from 0 to 10 ** 6."""
    check_pinned(registry, roots, pinned)
    if not isinstance(weights, dict) or len(weights) != len(pinned) or not all(
            [kit in pinned and is_index(weight, MOST_WEIGHT + 1) for kit, weight in weights.items()]):
        raise BadWeights("a dict from just the pinned kits to numbers from 0 to 10 ** 6 is wanted")


def cost_of(pinned, weights, chosen):
    """The sum of the weights of the pins that a set does not honour."""
    return sum([weights[kit] for kit, state in pinned.items() if not honours(chosen, kit, state)])


def costs_of(space, roots, pinned, weights):
    """The dict from the indexes of the lines of the sound sets to what these cost."""
    return {at: cost_of(pinned, weights, space.set_of_line(at)) for at in space.indexes(space.sound(roots))}


def nearest_lines(space, roots, pinned, weights):
    """The lines of the sound sets that cost least."""
    costs = costs_of(space, roots, pinned, weights)
    least = min(list(costs.values()), default=None)
    return sum([1 << at for at, cost in costs.items() if cost == least])


def nearest_cost(registry, roots, pinned, weights):
    """The least cost of a sound set, None if there is none."""
    check_weights(registry, roots, pinned, weights)
    costs = costs_of(Space(registry), roots, pinned, weights)
    return min(list(costs.values()), default=None)


def nearest_sets(registry, roots, pinned, weights):
    """The ascending list of the sound sets that cost least."""
    check_weights(registry, roots, pinned, weights)
    space = Space(registry)
    return space.sets_of(nearest_lines(space, roots, pinned, weights))


def light_lots(pinned, weights, most):
    """The list of the lots that weigh less than a number, shorter first, then ascending."""
    return [lot for lot in pinned_lots(pinned) if sum([weights[kit] for kit in lot]) < most]


def lies_within(lot, lots):
    """Whether all kits of a lot are in one of some lots."""
    return any([all([kit in other for kit in lot]) for other in lots])


def far_paper(registry, roots, pinned, weights, most):
    """For the greatest lots that weigh less than a number refutations that show that they are not enough, or None."""
    check_weights(registry, roots, pinned, weights)
    check_number(most)
    space = Space(registry)
    light = light_lots(pinned, weights, most)
    if any([honouring(space, roots, pinned, lot) != 0 for lot in light]):
        return None
    greatest = [lot for lot in light if not lies_within(lot, [other for other in light if other != lot])]
    return {lot: derived(space, free_clauses(registry, roots, pinned, lot), ()) for lot in sorted(greatest)}


def is_far_paper(registry, roots, pinned, weights, most, value):
    """Whether any value shows that no sound set costs less than a number."""
    check_weights(registry, roots, pinned, weights)
    check_number(most)
    if not isinstance(value, dict) or not all([is_lot_among(list(pinned), lot) for lot in value]):
        return False
    if not all([is_refuting(registry, roots, pinned, lot, value[lot]) for lot in value]):
        return False
    return all([lies_within(lot, list(value)) for lot in light_lots(pinned, weights, most)])


def honoured_counts(registry, roots, pinned, weights):
    """The number of the nearest sets, and the dict from the pinned kits to how many of these honour their pins."""
    found = nearest_sets(registry, roots, pinned, weights)
    if not found:
        raise NoSet("there is no sound set")
    return len(found), {
        kit: len([1 for chosen in found if honours(chosen, kit, pinned[kit])]) for kit in sorted(pinned)}


def freed_always(registry, roots, pinned, weights):
    """The ascending tuple of the pinned kits whose pins no nearest set honours."""
    _, counts = honoured_counts(registry, roots, pinned, weights)
    return tuple([kit for kit in counts if counts[kit] == 0])


def kept_always(registry, roots, pinned, weights):
    """The ascending tuple of the pinned kits whose pins every nearest set honours."""
    many, counts = honoured_counts(registry, roots, pinned, weights)
    return tuple([kit for kit in counts if counts[kit] == many])
