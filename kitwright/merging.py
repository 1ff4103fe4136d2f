"""Merging what two people made of one base: ranges, roots, pins and locks."""

from kitwright.best import best_of
from kitwright.checks import check_ranked, check_roots, is_any_state
from kitwright.errors import BadPins, NoSet, TooMany
from kitwright.locks import check_lock, lock_from
from kitwright.pinning import honours, nearest_lines
from kitwright.ranges import Range, check_range, copied_range, is_kit
from kitwright.registries import MOST_TOLD, check_registry
from kitwright.sets import trimmed
from kitwright.spaces import Space
from kitwright.stretches import ZERO


def merged_range(base, left, right):
    """The versions that left and right both have, and those that one has and base has not."""
    check_range(base)
    check_range(left)
    check_range(right)
    return (left & right) | ((left | right) - base)


def kits_of_three(base, left, right):
    """The ascending list of the kits of three dicts."""
    return sorted(set([*base, *left, *right]))


def merged_root(base, left, right):
    """The pair (range, word) of three ranges of one root, None where it is none; the word is None if none is due."""
    if left == base:
        return right, None
    if right == base:
        return left, None
    if left is None or right is None:
        other = right if left is None else left
        return other, None if other is None else "dropped"
    found = merged_range(Range([(ZERO, None)]) if base is None else base, left, right)
    return found, "empty" if left.stretches and right.stretches and not found.stretches else None


def merged_roots(base, left, right):
    """The roots that come of both, and the dict from kits to words where something is to be looked at."""
    check_roots(base)
    check_roots(left)
    check_roots(right)
    roots, words = {}, {}
    for kit in kits_of_three(base, left, right):
        ranged, word = merged_root(base.get(kit), left.get(kit), right.get(kit))
        if ranged is not None:
            roots[kit] = copied_range(ranged)
        if word is not None:
            words[kit] = word
    if len(roots) > MOST_TOLD:
        raise TooMany(MOST_TOLD)
    return roots, words


def check_states(pins):
    """Refuses what is no dict from kits to any states."""
    if not isinstance(pins, dict) or not all([is_kit(kit) and is_any_state(state) for kit, state in pins.items()]):
        raise BadPins("a dict from kits to any states is wanted")


def merged_pins(base, left, right):
    """The states that come of both, and the ascending tuple of the kits that both changed, unlike one another."""
    check_states(base)
    check_states(left)
    check_states(right)
    pinned, clashes = {}, []
    for kit in kits_of_three(base, left, right):
        old, one, other = base.get(kit, ()), left.get(kit, ()), right.get(kit, ())
        if one == other or other == old:
            pinned[kit] = one
        elif one == old:
            pinned[kit] = other
        else:
            clashes.append(kit)
    return pinned, tuple(clashes)


def merge_locks(registry, base, left, right, ranked):
    """The lock that comes of both, with words and clashes, and the kits whose pins are given up."""
    check_registry(registry)
    check_lock(base)
    check_lock(left)
    check_lock(right)
    check_ranked(registry, ranked)
    roots, words = merged_roots(base.roots, left.roots, right.roots)
    states, clashes = merged_pins(base.chosen, left.chosen, right.chosen)
    pinned = {kit: states.get(kit, ()) for kit in registry.kits if kit not in clashes}
    space = Space(registry)
    lines = nearest_lines(space, roots, pinned, {kit: 1 for kit in pinned})
    chosen = best_of(space, lines, ranked)
    if chosen is None:
        raise NoSet("there is no sound set")
    given = tuple([kit for kit in pinned if not honours(chosen, kit, pinned[kit])])
    return lock_from(registry, roots, trimmed(registry, roots, chosen)), words, clashes, given
