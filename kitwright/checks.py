"""What is asked of parameters that are called alike in all parts."""

from kitwright.errors import BadLot, BadNumber, BadRanked, BadRoots, BadSet, NoKit, NoVersion
from kitwright.ranges import is_kit, is_version
from kitwright.registries import is_ranges
from kitwright.values import is_index, is_list, is_number, is_rising, is_tuple_of


def check_roots(roots):
    """Refuses what is no dict from 0 to 4 kits to Ranges."""
    if not is_ranges(roots):
        raise BadRoots("a dict from 0 to 4 kits to Ranges is wanted")


def is_kit_of(registry, value):
    """Whether any value is a kit of the registry."""
    return value in registry.kits


def is_version_of(registry, kit, value):
    """Whether any value is a version of a kit of the registry."""
    return is_version(value) and value in registry.versions(kit)


def is_state_of(registry, kit, value):
    """Whether any value is a state of a kit of the registry."""
    return value == () or is_version_of(registry, kit, value)


def is_any_state(value):
    """Whether any value is absence or a version, be it one of a registry or not."""
    return value == () or is_version(value)


def is_state_pair(registry, value):
    """Whether any value is a pair of a kit of the registry and a state of it."""
    return is_tuple_of(value, 2) and is_kit_of(registry, value[0]) and is_state_of(registry, value[0], value[1])


def is_set_of(registry, value):
    """Whether any value is a set of the registry."""
    return isinstance(value, dict) and all(
        [is_kit_of(registry, kit) and is_version_of(registry, kit, version) for kit, version in value.items()])


def is_line_of(registry, value):
    """Whether any value is a line of the registry."""
    if not isinstance(value, tuple) or len(value) != len(registry.kits):
        return False
    return all([is_state_of(registry, kit, state) for kit, state in zip(registry.kits, value)])


def is_ranked(registry, value):
    """Whether any value is a list of all kits of the registry, each once."""
    return is_list(value) and len(value) == len(registry.kits) and all([kit in value for kit in registry.kits])


def check_kit(registry, kit):
    """Refuses what is no kit of the registry."""
    if not is_kit_of(registry, kit):
        raise NoKit(kit)


def check_version_of(registry, kit, version):
    """Refuses what is no kit of the registry, and what is no version of it."""
    check_kit(registry, kit)
    if not is_version_of(registry, kit, version):
        raise NoVersion(version)


def check_set(registry, chosen):
    """Refuses what is no set of the registry."""
    if not is_set_of(registry, chosen):
        raise BadSet("a set of the registry is wanted")


def is_kit_in(chosen, value):
    """Whether any value is a kit of a set."""
    return is_kit(value) and value in chosen


def check_kit_in(chosen, kit):
    """Refuses what is no kit of a set."""
    if not is_kit_in(chosen, kit):
        raise NoKit(kit)


def check_ranked(registry, ranked):
    """Refuses what is no list of all kits of the registry."""
    if not is_ranked(registry, ranked):
        raise BadRanked("a list of all kits of the registry is wanted, each once")


def is_lot_among(kits, value):
    """Whether any value is an ascending tuple of different ones of a list of kits."""
    return isinstance(value, tuple) and all([kit in kits for kit in value]) and is_rising(value)


def check_lot(kits, lot):
    """Refuses what is no ascending tuple of different ones of a list of kits."""
    if not is_lot_among(kits, lot):
        raise BadLot("an ascending tuple of different kits is wanted")


def check_index(value, many):
    """Refuses what is none of the first numbers from 0 on."""
    if not is_index(value, many):
        raise BadNumber(f"one of the first {many} numbers from 0 on is wanted")


def check_number(value):
    """Refuses what is no number from 0 on."""
    if not is_number(value) or value < 0:
        raise BadNumber("a number from 0 on is wanted")
