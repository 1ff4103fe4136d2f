"""Best sets, by orders of the kits, with papers that show them."""

from itertools import permutations

from kitwright.checks import (
    check_kit_in, check_number, check_ranked, check_roots, check_set, is_set_of, is_state_pair)
from kitwright.clauses import given_clauses
from kitwright.derivers import derived
from kitwright.errors import NoneSound
from kitwright.refuting import shows
from kitwright.registries import check_registry
from kitwright.sets import check_sound, is_sound, line_of, states_of
from kitwright.spaces import Space
from kitwright.values import is_tuple_of


def better_first(states):
    """All states of a kit, ascending, in another order: absence, then the versions, the latest one ahead."""
    return ((),) + states[:0:-1]


def grades(registry, ranked, chosen):
    """A tuple for a set that is less for a better one."""
    return tuple([better_first(states_of(registry, kit)).index(chosen.get(kit, ())) for kit in ranked])


def is_better(registry, ranked, one, other):
    """Whether one set is better than another one."""
    check_registry(registry)
    check_ranked(registry, ranked)
    check_set(registry, one)
    check_set(registry, other)
    return grades(registry, ranked, one) < grades(registry, ranked, other)


def check_task(registry, roots, ranked):
    """Refuses what is no registry, no roots and no order of the kits, in this order."""
    check_registry(registry)
    check_roots(roots)
    check_ranked(registry, ranked)


def best_of(space, mask, ranked):
    """The best of the sets with lines, None if there is none."""
    for kit in ranked:
        # The first state, in the order of the better ones, that some set has that is as good ahead.
        for state in better_first(space.choice[kit]):
            if mask & space.bits[kit, state]:
                mask = mask & space.bits[kit, state]
                break
    return space.first_set(mask)


def best_install(registry, roots, ranked):
    """The best sound set, None if there is none."""
    check_task(registry, roots, ranked)
    space = Space(registry)
    return best_of(space, space.sound(roots), ranked)


def best_order(registry, roots, ranked):
    """The list of the sound sets, the best one first."""
    space = Space(registry)
    return sorted(space.sets_of(space.sound(roots)), key=lambda chosen: grades(registry, ranked, chosen))


def sound_at(registry, roots, ranked, number):
    """The sound set with an index, the best one first, None if there are no more."""
    check_task(registry, roots, ranked)
    check_number(number)
    found = best_order(registry, roots, ranked)
    return found[number] if number < len(found) else None


def count_better(registry, roots, ranked, chosen):
    """How many sound sets are better than a set."""
    check_task(registry, roots, ranked)
    check_set(registry, chosen)
    own = grades(registry, ranked, chosen)
    return len([1 for other in best_order(registry, roots, ranked) if grades(registry, ranked, other) < own])


def mark_at(registry, ranked, chosen, kit):
    """The mark of a set at a kit of it."""
    order = list(ranked)
    ahead = [(other, (chosen.get(other, ()),)) for other in order[:order.index(kit)]]
    better = ((),) + tuple([version for version in registry.versions(kit) if version > chosen[kit]])
    return tuple(sorted([*ahead, (kit, better)]))


def mark(registry, ranked, chosen, kit):
    """The clause that bars all sets that are better first at this kit."""
    check_registry(registry)
    check_ranked(registry, ranked)
    check_set(registry, chosen)
    check_kit_in(chosen, kit)
    return mark_at(registry, ranked, chosen, kit)


def best_paper(registry, roots, ranked):
    """The best sound set and derivations of its marks, None if there is no sound set."""
    chosen = best_install(registry, roots, ranked)
    if chosen is None:
        return None
    space, given = Space(registry), given_clauses(registry, roots)
    shown = {kit: derived(space, given, mark_at(registry, ranked, chosen, kit)) for kit in chosen}
    return chosen, shown


def is_best_paper(registry, roots, ranked, value):
    """Whether any value is a best paper whose set is sound."""
    check_task(registry, roots, ranked)
    if not is_tuple_of(value, 2) or not is_set_of(registry, value[0]) or not is_sound(registry, roots, value[0]):
        return False
    chosen, shown = value
    if not isinstance(shown, dict) or len(shown) != len(chosen) or not all([kit in shown for kit in chosen]):
        return False
    given = given_clauses(registry, roots)
    return all([shows(registry, given, mark_at(registry, ranked, chosen, kit), shown[kit]) for kit in chosen])


def fates(registry, roots):
    """For each state the first sound set that has it, or a derivation that none has."""
    given = given_clauses(registry, roots)
    space = Space(registry)
    sound = space.sound(roots)
    found = {}
    for kit in registry.kits:
        for state in space.choice[kit]:
            chosen = space.first_set(sound & space.bits[kit, state])
            if chosen is None:
                found[kit, state] = ("never", derived(space, given, ((kit, (state,)),)))
            else:
                found[kit, state] = ("some", chosen)
    return found


def is_fate(registry, roots, given, pair, value):
    """Whether any value is a fate of a pair (kit, state)."""
    if not is_tuple_of(value, 2):
        return False
    kit, state = pair
    if value[0] == "never":
        return shows(registry, given, ((kit, (state,)),), value[1])
    if value[0] != "some" or not is_set_of(registry, value[1]):
        return False
    return value[1].get(kit, ()) == state and is_sound(registry, roots, value[1])


def is_fates(registry, roots, value):
    """Whether any value tells a fate of each state."""
    given = given_clauses(registry, roots)
    if not isinstance(value, dict) or not all([is_state_pair(registry, pair) for pair in value]):
        return False
    many = sum([len(registry.versions(kit)) + 1 for kit in registry.kits])
    return len(value) == many and all(
        [is_fate(registry, roots, given, pair, fate) for pair, fate in value.items()])


def sure_states(registry, roots):
    """The dict from the kits that have one and the same state in all sound sets to it."""
    check_registry(registry)
    check_roots(roots)
    space = Space(registry)
    sound = space.sound(roots)
    if not sound:
        raise NoneSound("there is no sound set")
    return {kit: state for kit, state in space.bits if sound & ~space.bits[kit, state] == 0}


def as_good(space, line):
    """The lines that have at each kit the same state as a line, or a better one."""
    mask = space.whole
    for kit, state in zip(space.order, line):
        states = better_first(space.choice[kit])
        mask = mask & space.having(kit, states[:states.index(state) + 1])
    return mask


def unbeaten_mask(space, sound):
    """The lines of the unbeaten ones of sound sets."""
    mask = 0
    for at in space.indexes(sound):
        if sound & as_good(space, space.lines[at]) == 1 << at:
            mask = mask | (1 << at)
    return mask


def beats(registry, roots, chosen):
    """The first unbeaten sound set that is as good at each kit as a sound set, None if this one is unbeaten."""
    check_sound(registry, roots, chosen)
    space = Space(registry)
    mask = unbeaten_mask(space, space.sound(roots))
    found = space.first_set(mask & as_good(space, line_of(registry, chosen)))
    return None if found == chosen else found


def unbeaten(registry, roots):
    """The ascending list of the unbeaten sound sets."""
    check_registry(registry)
    check_roots(roots)
    space = Space(registry)
    return space.sets_of(unbeaten_mask(space, space.sound(roots)))


def best_for(registry, roots):
    """All sets that are best for some order of the kits, ascending, each with the least such order."""
    check_registry(registry)
    check_roots(roots)
    space = Space(registry)
    sound = space.sound(roots)
    if not sound:
        return []
    orders = {}
    for ranked in permutations(list(space.order)):
        line = line_of(registry, best_of(space, sound, ranked))
        if line not in orders:
            orders[line] = ranked
    return [(space.set_of_line(space.lines.index(line)), orders[line]) for line in sorted(orders)]
