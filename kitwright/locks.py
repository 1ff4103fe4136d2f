"""Locks, which tell an install without its registry: versions with their manifests."""

from kitwright.checks import check_lot, check_roots
from kitwright.errors import BadPins, NotLock
from kitwright.ranges import is_kit, is_version
from kitwright.registries import check_registry, copied_manifest, copied_ranges, is_manifest
from kitwright.sets import check_install, manifest_faults, stands
from kitwright.values import is_tuple_of

MOST_PINS = 5


def is_lock_pin(value):
    """Whether any value is a pair of a version and a manifest."""
    return is_tuple_of(value, 2) and is_version(value[0]) and is_manifest(value[1])


def is_lock_pins(value):
    """Whether any value is a dict from 0 to 5 kits to such pairs."""
    if not isinstance(value, dict) or len(value) > MOST_PINS:
        return False
    return all([is_kit(kit) and is_lock_pin(pin) for kit, pin in value.items()])


def copied_pins(pins):
    """Pins of a lock that are new at every depth, with ascending keys."""
    return {kit: (pins[kit][0], copied_manifest(pins[kit][1])) for kit in sorted(pins)}


class Lock:
    """Roots, and the kits of an install with their versions and manifests; it never changes."""

    def __init__(self, roots, pins):
        check_roots(roots)
        if not is_lock_pins(pins):
            raise BadPins("a dict from 0 to 5 kits to pairs of a version and a manifest is wanted")
        self._roots = copied_ranges(roots)
        self._pins = copied_pins(pins)

    @property
    def roots(self):
        """The dict from the root kits to their ranges."""
        return copied_ranges(self._roots)

    @property
    def pins(self):
        """The dict from the kits to the pairs of their versions and manifests."""
        return copied_pins(self._pins)

    @property
    def chosen(self):
        """The dict from the kits to their versions."""
        return {kit: pin[0] for kit, pin in self._pins.items()}

    def __eq__(self, other):
        return isinstance(other, Lock) and self._roots == other._roots and self._pins == other._pins

    def __repr__(self):
        return f"Lock({self._roots!r}, {self._pins!r})"


def check_lock(lock):
    """Refuses what is no Lock."""
    if not isinstance(lock, Lock):
        raise NotLock("a Lock is wanted")


def lock_from(registry, roots, chosen):
    """The lock of a set that is known to be an install."""
    return Lock(roots, {kit: (version, registry.manifest(kit, version)) for kit, version in chosen.items()})


def lock_of(registry, roots, chosen):
    """The lock of an install."""
    check_install(registry, roots, chosen)
    return lock_from(registry, roots, chosen)


def come_to(lock, kits):
    """The ascending list of the kits of a lock that are come to from some kits by wants, whatever the ranges."""
    pins = lock.pins
    found = [kit for kit in kits if kit in pins]
    at = 0
    while at < len(found):
        wants = pins[found[at]][1][0]
        found.extend([kit for kit in wants if kit in pins and kit not in found])
        at += 1
    return sorted(found)


def lock_faults(lock):
    """The ascending list of the faults of a lock."""
    check_lock(lock)
    kits, chosen = come_to(lock, list(lock.roots)), lock.chosen
    found = [("root", kit) for kit, ranged in lock.roots.items() if not stands(chosen, kit, ranged)]
    for kit, (_, manifest) in lock.pins.items():
        found.extend(manifest_faults(kit, manifest, chosen))
        if kit not in kits:
            found.append(("stray", kit))
    return sorted(found)


def wanted_by(lock):
    """The dict from the kits of a lock to the ascending tuples of its kits whose manifests want them."""
    check_lock(lock)
    pins = lock.pins
    return {kit: tuple([other for other in pins if kit in pins[other][1][0]]) for kit in pins}


def leaves_with(lock, lot):
    """The ascending tuple of the kits that are reached, but not if the kits of a lot are no roots."""
    check_lock(lock)
    roots = list(lock.roots)
    check_lot(roots, lot)
    left = come_to(lock, [kit for kit in roots if kit not in lot])
    return tuple([kit for kit in come_to(lock, roots) if kit not in left])


def loss_of(registry, kit, pin):
    """What a registry has not of a pin of a lock: "kit", "version" or "manifest"; None if it has all."""
    if kit not in registry.kits:
        return "kit"
    if pin[0] not in registry.versions(kit):
        return "version"
    return None if registry.manifest(kit, pin[0]) == pin[1] else "manifest"


def lost_pins(registry, lock):
    """The ascending list of the pairs of what a registry has not of a pin, and the kit of the pin."""
    check_registry(registry)
    check_lock(lock)
    found = [(loss_of(registry, kit, pin), kit) for kit, pin in lock.pins.items()]
    return sorted([pair for pair in found if pair[0] is not None])
