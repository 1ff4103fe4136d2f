"""Registries made of floors: whether the floor list is the least sound set, and how it is raised and lowered."""

from itertools import combinations

from kitwright.checks import check_version_of, is_kit_of
from kitwright.clauses import given_clauses
from kitwright.derivers import derived
from kitwright.errors import BadBounds, NoKit, NotFloors
from kitwright.floors import (
    chains_from, check_floors, first_of, firsts_of, floor_list, is_made_of_floors, lacking, latest_of)
from kitwright.pairs import all_pairs, wants_of
from kitwright.ranges import Range, is_kit, is_version, next_version
from kitwright.refuting import shows
from kitwright.registries import check_registry
from kitwright.spaces import Space

MOST_BOUNDS = 4


def check_made_of_floors(registry):
    """Refuses what is no registry, and one that is not made of floors."""
    check_registry(registry)
    if not is_made_of_floors(registry):
        raise NotFloors("a registry made of floors is wanted")


def foot(floor):
    """The first version of a floor."""
    return floor.stretches[0][0]


def keeps_up(less, more):
    """Whether what a later version wants is all that an earlier one wants, with feet that are not lower."""
    return all([kit in more and foot(less[kit]) <= foot(more[kit]) for kit in less])


def falls(registry):
    """The least triple (kit, earlier, later) of versions that do not rise, None if there is none."""
    check_made_of_floors(registry)
    for kit in registry.kits:
        for earlier, later in combinations(list(registry.versions(kit)), 2):
            if not keeps_up(wants_of(registry, (kit, earlier)), wants_of(registry, (kit, later))):
                return kit, earlier, later
    return None


def rises(registry):
    """Whether each later version wants what an earlier one wants, with feet that are not lower."""
    return falls(registry) is None


def versions_from(registry, kit, version):
    """The ascending tuple of the versions of a kit from one on."""
    return tuple([other for other in registry.versions(kit) if other >= version])


def lower(registry, roots):
    """The least kit that a sound set has not as late as the floor list, with the first such set, or None."""
    chosen = floor_list(registry, roots)
    if chosen is None:
        return None
    space = Space(registry)
    sound = space.sound(roots)
    for kit, version in chosen.items():
        found = sound & ~space.having(kit, versions_from(registry, kit, version))
        if found:
            return kit, space.first_set(found)
    return None


def least_clauses(registry, roots, kit, version):
    """The given clauses, and behind them the one that bars a kit from a version on."""
    return given_clauses(registry, roots) + [((kit, versions_from(registry, kit, version)),)]


def least_paper(registry, roots):
    """Refutations that show that the floor list is the least sound set, None if it is not."""
    chosen = floor_list(registry, roots)
    if chosen is None or lower(registry, roots) is not None:
        return None
    space = Space(registry)
    return {
        kit: derived(space, least_clauses(registry, roots, kit, version), ()) for kit, version in chosen.items()}


def is_least_paper(registry, roots, value):
    """Whether any value shows that the floor list is the least sound set."""
    chosen = floor_list(registry, roots)
    if chosen is None or not isinstance(value, dict):
        return False
    if len(value) != len(chosen) or not all([kit in value for kit in chosen]):
        return False
    return all([
        shows(registry, least_clauses(registry, roots, kit, version), (), value[kit])
        for kit, version in chosen.items()])


def has_lack(registry, pairs):
    """Whether one of some pairs wants a kit without a first pair."""
    return any([lacking(registry, wants_of(registry, pair)) for pair in pairs])


def raised(registry, roots, kit):
    """The floor list with a kit in a later version, and with what this one wants; None if there is none."""
    chosen = floor_list(registry, roots)
    if chosen is None or not is_kit(kit) or kit not in chosen:
        raise NoKit(kit)
    more = first_of(registry, kit, Range([(next_version(chosen[kit]), None)]))
    if more is None:
        return None
    pairs = list(chains_from(registry, firsts_of(registry, roots) + [more]))
    return None if has_lack(registry, pairs) else latest_of(pairs)


def last_list(registry, roots):
    """The set of the kits that are come to by the wants of latest versions, each in its latest one, or None."""
    check_floors(registry, roots)
    if lacking(registry, roots):
        return None
    found = {kit: registry.versions(kit)[-1] for kit in sorted(roots)}
    waiting = list(found)
    at = 0
    while at < len(waiting):
        wants = wants_of(registry, (waiting[at], found[waiting[at]]))
        if lacking(registry, wants):
            return None
        for kit in wants:
            if kit not in found:
                found[kit] = registry.versions(kit)[-1]
                waiting.append(kit)
        at += 1
    return {kit: found[kit] for kit in sorted(found)}


def check_bounds(registry, bounds):
    """Refuses what is no dict from 0 to 4 kits of the registry to versions."""
    if not isinstance(bounds, dict) or len(bounds) > MOST_BOUNDS or not all(
            [is_kit_of(registry, kit) and is_version(version) for kit, version in bounds.items()]):
        raise BadBounds("a dict from 0 to 4 kits of the registry to versions is wanted")


def is_beyond(registry, bounds, pair):
    """Whether a pair is later than its bound, or wants a kit without a first pair."""
    kit, version = pair
    return (kit in bounds and version > bounds[kit]) or has_lack(registry, [pair])


def bar_chain_of(registry, bounds, pair):
    """The least of the shortest chains from a pair to one that is beyond, None if it is bounded."""
    for behind, chain in chains_from(registry, [pair]).items():
        if is_beyond(registry, bounds, behind):
            return chain
    return None


def bounded_pairs(registry, bounds):
    """The ascending list of all bounded pairs."""
    return [pair for pair in all_pairs(registry) if bar_chain_of(registry, bounds, pair) is None]


def bounded(registry, bounds):
    """The ascending tuple of all pairs from which nothing is met that is beyond the bounds or has a lack."""
    check_made_of_floors(registry)
    check_bounds(registry, bounds)
    return tuple(bounded_pairs(registry, bounds))


def lowered(registry, roots, bounds):
    """The roots, each from its latest bounded version on that is not later than the first one; others left out."""
    check_floors(registry, roots)
    check_bounds(registry, bounds)
    pairs = bounded_pairs(registry, bounds)
    found = {}
    for kit, first in firsts_of(registry, roots):
        versions = [version for other, version in pairs if other == kit and version <= first]
        if versions:
            found[kit] = Range([(versions[-1], None)])
    return found


def bar_chain(registry, bounds, kit, version):
    """The least of the shortest chains from a pair to one beyond its bound or with a lack, None for a bounded one."""
    check_made_of_floors(registry)
    check_bounds(registry, bounds)
    check_version_of(registry, kit, version)
    return bar_chain_of(registry, bounds, (kit, version))
