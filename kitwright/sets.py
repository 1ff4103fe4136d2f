"""Sets of a registry: their faults, what is reached, all sound ones, and what holds for all roots."""

from kitwright.checks import (
    check_index, check_kit_in, check_roots, check_set, check_version_of, is_kit_in, is_kit_of, is_line_of, is_set_of,
    is_version_of)
from kitwright.errors import BadLine, NoEntry, NotSound, OtherKits, TooMany
from kitwright.lots import least_meeting
from kitwright.registries import Registry, check_registry, kits_of
from kitwright.spaces import Space
from kitwright.values import is_list, is_tuple_of

MOST_ENTRIES = 10


def states_of(registry, kit):
    """The ascending tuple of the states of a kit, () first."""
    check_registry(registry)
    return ((),) + registry.versions(kit)


def is_set(registry, value):
    """Whether any value is a set of the registry."""
    check_registry(registry)
    return is_set_of(registry, value)


def line_of(registry, chosen):
    """The tuple of the states of all kits of the registry in a set."""
    check_registry(registry)
    check_set(registry, chosen)
    return tuple([chosen.get(kit, ()) for kit in registry.kits])


def set_of(registry, line):
    """The set with a line."""
    check_registry(registry)
    if not is_line_of(registry, line):
        raise BadLine("a line of the registry is wanted")
    return {kit: state for kit, state in zip(registry.kits, line) if state != ()}


def check_sets(registry, roots, chosen):
    """Refuses what is no registry, no roots and no set, in this order."""
    check_registry(registry)
    check_roots(roots)
    check_set(registry, chosen)


def stands(chosen, kit, ranged):
    """Whether a kit is in a set with a version of a range."""
    return kit in chosen and chosen[kit] in ranged


def manifest_faults(kit, manifest, chosen):
    """The faults of a set at what the manifest of one of its kits says."""
    wants, clashes, _ = manifest
    missed = [("want", kit, other) for other, ranged in wants.items() if not stands(chosen, other, ranged)]
    return missed + [("clash", kit, other) for other, ranged in clashes.items() if stands(chosen, other, ranged)]


def faults(registry, roots, chosen):
    """The ascending list of the faults of a set."""
    check_sets(registry, roots, chosen)
    found = [("root", kit) for kit, ranged in roots.items() if not stands(chosen, kit, ranged)]
    for kit, version in chosen.items():
        found.extend(manifest_faults(kit, registry.manifest(kit, version), chosen))
    return sorted(found)


def is_sound(registry, roots, chosen):
    """Whether a set has no fault."""
    return faults(registry, roots, chosen) == []


def check_sound(registry, roots, chosen):
    """Refuses, behind what is no set, a set that is not sound."""
    if not is_sound(registry, roots, chosen):
        raise NotSound("a sound set is wanted")


def wanted_in(registry, chosen, kit):
    """The ascending list of the kits of a set that the manifest of one of them wants."""
    return [other for other in registry.manifest(kit, chosen[kit])[0] if other in chosen]


def least_chains(registry, roots, chosen):
    """The dict from the kits that are reached to the least of their shortest chains."""
    chains = {kit: [kit] for kit in sorted(roots) if kit in chosen}
    # Kits come in the order of their chains, so the first chain to a kit is the least one.
    waiting = list(chains)
    at = 0
    while at < len(waiting):
        ahead = chains[waiting[at]]
        for other in wanted_in(registry, chosen, waiting[at]):
            if other not in chains:
                chains[other] = ahead + [other]
                waiting.append(other)
        at += 1
    return chains


def reached(registry, roots, chosen):
    """The ascending tuple of the kits of a set that are reached."""
    check_sets(registry, roots, chosen)
    return tuple(sorted(least_chains(registry, roots, chosen)))


def chain_to(registry, roots, chosen, kit):
    """The least of the shortest chains to a kit of the set, None if it is not reached."""
    check_sets(registry, roots, chosen)
    check_kit_in(chosen, kit)
    return least_chains(registry, roots, chosen).get(kit)


def is_chain(registry, roots, chosen, value):
    """Whether any value is a chain to a kit of the set."""
    check_sets(registry, roots, chosen)
    if not is_list(value) or not value or not all([is_kit_in(chosen, kit) for kit in value]):
        return False
    return value[0] in roots and all(
        [other in wanted_in(registry, chosen, kit) for kit, other in zip(value, value[1:])])


def trimmed(registry, roots, chosen):
    """The set without the kits that are not reached, of a sound one."""
    check_sound(registry, roots, chosen)
    return {kit: chosen[kit] for kit in reached(registry, roots, chosen)}


def is_all_reached(registry, roots, chosen):
    """Whether all kits of a set are reached."""
    return len(reached(registry, roots, chosen)) == len(chosen)


def check_install(registry, roots, chosen):
    """Refuses, behind what is no set, a set that is no install."""
    check_sound(registry, roots, chosen)
    if not is_all_reached(registry, roots, chosen):
        raise NotSound("an install is wanted")


def sound_sets(registry, roots):
    """The ascending list of the sound sets."""
    check_registry(registry)
    check_roots(roots)
    space = Space(registry)
    return space.sets_of(space.sound(roots))


def installs(registry, roots):
    """The ascending list of the sound sets all of whose kits are reached."""
    return [chosen for chosen in sound_sets(registry, roots) if is_all_reached(registry, roots, chosen)]


def how_many(registry, roots):
    """How many sound sets there are."""
    return len(sound_sets(registry, roots))


def set_at(registry, roots, number):
    """The sound set with an index."""
    found = sound_sets(registry, roots)
    check_index(number, len(found))
    return found[number]


def number_of(registry, roots, chosen):
    """The index of a sound set."""
    check_sound(registry, roots, chosen)
    return sound_sets(registry, roots).index(chosen)


def tally(registry, roots):
    """The dict from the kits to dicts from their states to how many sound sets have them."""
    check_registry(registry)
    check_roots(roots)
    space = Space(registry)
    sound = space.sound(roots)
    return {
        kit: {state: len(space.indexes(space.bits[kit, state] & sound)) for state in space.choice[kit]}
        for kit in registry.kits}


def closed_sets(registry):
    """The ascending list of the sets that are sound without roots."""
    return sound_sets(registry, {})


def check_like(one, other):
    """Refuses what are no two registries with the same kits and versions."""
    check_registry(one)
    check_registry(other)
    if one.kits != other.kits or any([one.versions(kit) != other.versions(kit) for kit in one.kits]):
        raise OtherKits("the same kits and versions are wanted")


def parting_set(one, other):
    """The least set that is closed in just one of both registries, None if there is none."""
    check_like(one, other)
    space = Space(one)
    return space.first_set(space.closed() ^ Space(other).closed())


def same_sets(one, other):
    """Whether two registries have the same closed sets."""
    return parting_set(one, other) is None


def dead_versions(registry):
    """The ascending list of the pairs (kit, version) that stand in no closed set."""
    check_registry(registry)
    space = Space(registry)
    closed = space.closed()
    return [
        (kit, version) for kit in registry.kits for version in registry.versions(kit)
        if not space.bits[kit, version] & closed]


def beside(registry, kit, version):
    """The dict from all kits to the states that they have in closed sets with a version, {} if it is dead."""
    check_registry(registry)
    check_version_of(registry, kit, version)
    space = Space(registry)
    found = space.closed() & space.bits[kit, version]
    if not found:
        return {}
    return {
        other: tuple([state for state in space.choice[other] if space.bits[other, state] & found])
        for other in registry.kits}


def lines_with(registry, kit, version):
    """The ascending list of the lines of all sets that have a version."""
    space = Space(registry)
    return [space.lines[at] for at in space.indexes(space.bits[kit, version])]


def dead_paper(registry, kit, version):
    """A dict from the lines of all sets with a version to one of their faults, None if it is not dead."""
    if beside(registry, kit, version):
        return None
    return {
        line: faults(registry, {}, set_of(registry, line))[0] for line in lines_with(registry, kit, version)}


def is_dead_paper(registry, kit, version, value):
    """Whether any value is a dead paper of a version."""
    check_registry(registry)
    check_version_of(registry, kit, version)
    if not isinstance(value, dict) or not all([is_line_of(registry, line) for line in value]):
        return False
    lines = lines_with(registry, kit, version)
    return len(value) == len(lines) and all(
        [line in value and value[line] in faults(registry, {}, set_of(registry, line)) for line in lines])


def is_entry(registry, value):
    """Whether any value is an entry of the registry."""
    if not is_tuple_of(value, 4) or not is_kit_of(registry, value[0]):
        return False
    return is_version_of(registry, value[0], value[1]) and value in list(Space(registry).flaws)


def without_entry(registry, entry):
    """The registry whose manifest does not say an entry."""
    check_registry(registry)
    if not is_entry(registry, entry):
        raise NoEntry("an entry of the registry is wanted")
    kit, version, word, other = entry
    kits = kits_of(registry)
    told = kits[kit][version][0 if word == "want" else 1]
    del told[other]
    return Registry(kits)


def fault_lots(space, entries):
    """For each set that is not closed the list of the indexes of the entries at fault."""
    return [
        [index for index, entry in enumerate(entries) if (space.flaws[entry] >> at) & 1]
        for at in space.indexes(space.whole & ~space.closed())]


def needless_entries(registry):
    """The ascending list of the entries each of which alone can be left out while the closed sets stay the same."""
    check_registry(registry)
    space = Space(registry)
    entries = sorted(space.flaws)
    alone = [lot[0] for lot in fault_lots(space, entries) if len(lot) == 1]
    return [entry for index, entry in enumerate(entries) if index not in alone]


def spare_lots(registry):
    """The greatest lots of entries that can be left out together while the closed sets stay the same."""
    check_registry(registry)
    space = Space(registry)
    entries = sorted(space.flaws)
    if len(entries) > MOST_ENTRIES:
        raise TooMany(MOST_ENTRIES)
    # What stays has to meet each lot of entries at fault.
    stays = least_meeting(fault_lots(space, entries), len(entries))
    spare = [tuple([entry for index, entry in enumerate(entries) if index not in stay]) for stay in stays]
    return sorted(sorted(spare), key=len, reverse=True)


def gained(registry, roots, kit, version, manifest):
    """The ascending list of the sound sets that come with a version that is published."""
    check_registry(registry)
    check_roots(roots)
    later = registry.published(kit, version, manifest)
    return [chosen for chosen in sound_sets(later, roots) if chosen.get(kit) == version]


def lost(registry, roots, kit, version):
    """The ascending list of the sound sets that go with a version that is withdrawn."""
    check_registry(registry)
    check_roots(roots)
    registry.withdrawn(kit, version)
    return [chosen for chosen in sound_sets(registry, roots) if chosen.get(kit) == version]
