"""Registries: kits in versions, each with a manifest of what it wants, bars and hints."""

from kitwright.errors import (
    BadKit, BadManifest, BadNames, BadRegistry, BadVersion, CommonKit, LastOne, NoKit, NotRegistry, NoVersion, Taken,
    TooMany)
from kitwright.ranges import Range, copied_range, is_kit, is_version
from kitwright.values import is_rising, is_tuple_of

MOST_TOLD = 4
MOST_KITS = 5
MOST_VERSIONS = 4
MOST_SETS = 600


def is_ranges(value):
    """Whether any value is a dict from at most 4 kits to Ranges."""
    if not isinstance(value, dict) or len(value) > MOST_TOLD:
        return False
    return all([is_kit(kit) and isinstance(ranged, Range) for kit, ranged in value.items()])


def is_manifest(value):
    """Whether any value is a triple of two dicts from at most 4 kits to Ranges, and an ascending tuple of kits."""
    if not is_tuple_of(value, 3) or not is_ranges(value[0]) or not is_ranges(value[1]):
        return False
    after = value[2]
    return isinstance(after, tuple) and len(after) <= MOST_TOLD and all(
        [is_kit(kit) for kit in after]) and is_rising(after)


def copied_ranges(ranges):
    """A new dict, with ascending keys, to new Ranges."""
    return {kit: copied_range(ranges[kit]) for kit in sorted(ranges)}


def copied_manifest(manifest):
    """A manifest that is new at every depth."""
    return copied_ranges(manifest[0]), copied_ranges(manifest[1]), manifest[2]


def is_kit_dict(value):
    """Whether any value is a dict from 1 to 5 kits."""
    return isinstance(value, dict) and 1 <= len(value) <= MOST_KITS and all([is_kit(kit) for kit in value])


def is_version_dict(value):
    """Whether any value is a dict from 1 to 4 versions."""
    return isinstance(value, dict) and 1 <= len(value) <= MOST_VERSIONS and all(
        [is_version(version) for version in value])


def check_kits(kits):
    """Refuses what can be no registry."""
    if not is_kit_dict(kits):
        raise BadRegistry(None)
    for kit in sorted(kits):
        if not is_version_dict(kits[kit]):
            raise BadRegistry((kit,))
    for kit in sorted(kits):
        for version in sorted(kits[kit]):
            if not is_manifest(kits[kit][version]):
                raise BadRegistry((kit, version))
    sets = 1
    for versions in kits.values():
        sets = sets * (len(versions) + 1)
    if sets > MOST_SETS:
        raise TooMany(MOST_SETS)


class Registry:
    """Kits in versions with manifests; it never changes."""

    def __init__(self, kits):
        check_kits(kits)
        self._kits = {
            kit: {version: copied_manifest(kits[kit][version]) for version in sorted(kits[kit])}
            for kit in sorted(kits)}

    @property
    def kits(self):
        """The ascending tuple of the kits that are there."""
        return tuple(self._kits)

    @property
    def named(self):
        """The ascending tuple of the kits that are there, or stand in a manifest."""
        told = [
            name for versions in self._kits.values() for manifest in versions.values()
            for part in manifest for name in part]
        return tuple(sorted(set([*self._kits, *told])))

    def __eq__(self, other):
        return isinstance(other, Registry) and self._kits == other._kits

    def __repr__(self):
        return f"Registry({self._kits!r})"

    def versions(self, kit):
        """The ascending tuple of the versions of a kit."""
        if not is_kit(kit) or kit not in self._kits:
            raise NoKit(kit)
        return tuple(self._kits[kit])

    def manifest(self, kit, version):
        """The manifest of a version of a kit."""
        versions = self.versions(kit)
        if not is_version(version) or version not in versions:
            raise NoVersion(version)
        return copied_manifest(self._kits[kit][version])

    def published(self, kit, version, manifest):
        """The registry with one version more, perhaps of a new kit."""
        if not is_kit(kit):
            raise BadKit("a kit is wanted")
        if not is_version(version):
            raise BadVersion("a version is wanted")
        if not is_manifest(manifest):
            raise BadManifest("a manifest is wanted")
        there = self._kits.get(kit, {})
        if version in there:
            raise Taken("this version is there already")
        if len(there) == MOST_VERSIONS:
            raise TooMany(MOST_VERSIONS)
        if kit not in self._kits and len(self._kits) == MOST_KITS:
            raise TooMany(MOST_KITS)
        kits = kits_of(self)
        if kit not in kits:
            kits[kit] = {}
        kits[kit][version] = manifest
        return Registry(kits)

    def withdrawn(self, kit, version):
        """The registry without a version, and without its kit if that was the only one."""
        versions = self.versions(kit)
        if not is_version(version) or version not in versions:
            raise NoVersion(version)
        kits = kits_of(self)
        del kits[kit][version]
        if not kits[kit]:
            del kits[kit]
        if not kits:
            raise LastOne("nothing would be left")
        return Registry(kits)


def check_registry(registry):
    """Refuses what is no Registry."""
    if not isinstance(registry, Registry):
        raise NotRegistry("a Registry is wanted")


def is_names(named, value):
    """Whether any value is a dict from just these kits to different kits."""
    if not isinstance(value, dict) or len(value) != len(named) or not all([kit in value for kit in named]):
        return False
    names = list(value.values())
    return all([is_kit(name) for name in names]) and len(set(names)) == len(names)


def renamed_manifest(manifest, names):
    """A manifest in which kits are called otherwise."""
    wants, clashes, after = manifest
    return (
        {names[kit]: wants[kit] for kit in wants},
        {names[kit]: clashes[kit] for kit in clashes},
        tuple(sorted([names[kit] for kit in after])))


def renamed(registry, names):
    """The registry in which kits are called otherwise."""
    check_registry(registry)
    if not is_names(registry.named, names):
        raise BadNames("a dict from just the named kits to different kits is wanted")
    return Registry({
        names[kit]: {
            version: renamed_manifest(registry.manifest(kit, version), names) for version in registry.versions(kit)}
        for kit in registry.kits})


def kits_of(registry):
    """The dict that a registry was made with."""
    return {
        kit: {version: registry.manifest(kit, version) for version in registry.versions(kit)}
        for kit in registry.kits}


def together(one, other):
    """The registry of the kits of both, which name no kit in common."""
    check_registry(one)
    check_registry(other)
    for kit in one.named:
        if kit in other.named:
            raise CommonKit(kit)
    kits = {**kits_of(one), **kits_of(other)}
    if len(kits) > MOST_KITS:
        raise TooMany(MOST_KITS)
    return Registry(kits)
