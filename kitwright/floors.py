"""Registries made of floors: what is met from the roots, the floor list, chains and closed lots."""

from kitwright.checks import check_roots, check_version_of
from kitwright.clauses import versions_in
from kitwright.errors import NoKit, NotFloors, NotRange
from kitwright.pairs import all_pairs, is_pair, wants_of
from kitwright.ranges import Range, is_kit
from kitwright.registries import check_registry
from kitwright.values import is_rising


def is_floor(value):
    """Whether any value is a Range of one stretch without an end."""
    return isinstance(value, Range) and len(value.stretches) == 1 and value.stretches[0][1] is None


def are_floors(ranges):
    """Whether all ranges of a dict are floors."""
    return all([is_floor(ranged) for ranged in list(ranges.values())])


def is_made_of_floors(registry):
    """Whether all that is wanted are floors, and nothing is barred."""
    told = [registry.manifest(kit, version) for kit, version in all_pairs(registry)]
    return all([are_floors(wants) and not clashes for wants, clashes, _ in told])


def is_floors(registry, roots):
    """Whether the registry is made of floors and the roots are floors."""
    check_registry(registry)
    check_roots(roots)
    return is_made_of_floors(registry) and are_floors(roots)


def check_floors(registry, roots):
    """Refuses what is no registry, no roots, and what is not made of floors, in this order."""
    if not is_floors(registry, roots):
        raise NotFloors("a registry and roots made of floors are wanted")


def first_of(registry, kit, ranged):
    """The kit with its least version in a floor, None if there is none."""
    found = versions_in(registry, kit, ranged)
    return (kit, found[0]) if found else None


def first_pair(registry, kit, ranged):
    """The kit with its least version in a floor, None if there is none."""
    check_registry(registry)
    if not is_kit(kit):
        raise NoKit(kit)
    if not is_floor(ranged):
        raise NotRange("a floor is wanted")
    return first_of(registry, kit, ranged)


def firsts_of(registry, wants):
    """The ascending list of the first pairs of the kits that are wanted, as far as there are such."""
    found = [first_of(registry, kit, wants[kit]) for kit in sorted(wants)]
    return [pair for pair in found if pair is not None]


def lacking(registry, wants):
    """The ascending list of the kits that are wanted without a first pair."""
    return [kit for kit in sorted(wants) if first_of(registry, kit, wants[kit]) is None]


def chains_from(registry, starts):
    """The dict from the pairs that are met from ascending ones to the least of the shortest chains to them."""
    chains = {pair: (pair,) for pair in starts}
    # Pairs come in the order of their chains, so the first chain to a pair is the least one.
    waiting = list(chains)
    at = 0
    while at < len(waiting):
        ahead = chains[waiting[at]]
        for pair in firsts_of(registry, wants_of(registry, waiting[at])):
            if pair not in chains:
                chains[pair] = ahead + (pair,)
                waiting.append(pair)
        at += 1
    return chains


def met(registry, roots):
    """The ascending tuple of all met pairs."""
    check_floors(registry, roots)
    return tuple(sorted(chains_from(registry, firsts_of(registry, roots))))


def lacks(registry, roots):
    """The ascending list of the pairs (at, kit) of what is wanted without a first pair, those of None ahead."""
    pairs = met(registry, roots)
    found = [(None, kit) for kit in lacking(registry, roots)]
    for pair in pairs:
        found.extend([(pair, kit) for kit in lacking(registry, wants_of(registry, pair))])
    return found


def latest_of(pairs):
    """The set that has just the kits of some pairs, each in its latest version there."""
    return {kit: version for kit, version in sorted(pairs)}


def floor_list(registry, roots):
    """The set of the kits of the met pairs, each in its latest met version, None if there is a lack."""
    return None if lacks(registry, roots) else latest_of(met(registry, roots))


def pair_chain(registry, roots, kit, version):
    """The least of the shortest chains that end with a pair, None if it is not met."""
    check_floors(registry, roots)
    check_version_of(registry, kit, version)
    return chains_from(registry, firsts_of(registry, roots)).get((kit, version))


def is_pair_chain(registry, roots, value):
    """Whether any value is a chain."""
    check_floors(registry, roots)
    if not isinstance(value, tuple) or not value or not all([is_pair(registry, pair) for pair in value]):
        return False
    return value[0] in firsts_of(registry, roots) and all(
        [behind in firsts_of(registry, wants_of(registry, ahead)) for ahead, behind in zip(value, value[1:])])


def are_first_in(registry, wants, pairs):
    """Whether all that is wanted has a first pair that is one of some pairs."""
    return not lacking(registry, wants) and all([pair in pairs for pair in firsts_of(registry, wants)])


def is_closed(registry, roots, value):
    """Whether any value is an ascending tuple of pairs that is a closed lot in which no lack comes up."""
    check_floors(registry, roots)
    if not isinstance(value, tuple) or not all([is_pair(registry, pair) for pair in value]) or not is_rising(value):
        return False
    return are_first_in(registry, roots, value) and all(
        [are_first_in(registry, wants_of(registry, pair), value) for pair in value])
