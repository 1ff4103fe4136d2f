"""Pairs (kit, version) of a registry."""

from kitwright.checks import is_kit_of, is_version_of
from kitwright.values import is_tuple_of


def all_pairs(registry):
    """The ascending list of all pairs of a registry."""
    return [(kit, version) for kit in registry.kits for version in registry.versions(kit)]


def is_pair(registry, value):
    """Whether any value is a pair of the registry."""
    return is_tuple_of(value, 2) and is_kit_of(registry, value[0]) and is_version_of(registry, value[0], value[1])


def wants_of(registry, pair):
    """The dict from the kits that a pair wants to their ranges."""
    return registry.manifest(pair[0], pair[1])[0]
