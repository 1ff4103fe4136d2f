"""Lots: ascending tuples of indexes from 0 on."""

from itertools import combinations


def all_lots(many):
    """All lots of the first indexes, so many of them, shorter first, then ascending."""
    return [lot for size in range(many + 1) for lot in combinations(range(many), size)]


def lots_at(names, lots):
    """Lots of indexes as tuples of what stands there in a list of names."""
    return [tuple([names[index] for index in lot]) for lot in lots]


def lot_bits(lot):
    """A lot as the bits of a number."""
    bits = 0
    for index in lot:
        bits = bits | (1 << index)
    return bits


def least_lots(lots):
    """The lots that have no other one of them within, in the order in which they stand, shorter ones being first."""
    found = []
    for lot in lots:
        bits = lot_bits(lot)
        if all([(known & ~bits) != 0 for _, known in found]):
            found.append((lot, bits))
    return [lot for lot, _ in found]


def least_meeting(lots, many):
    """The least lots of the first indexes that have an index of each of some lots, shorter first, then ascending."""
    asked = sorted(set([lot_bits(lot) for lot in lots]))
    return least_lots([lot for lot in all_lots(many) if meets_all(lot_bits(lot), asked)])


def meets_all(bits, asked):
    """Whether a lot has an index of each of some lots, all being the bits of numbers."""
    return all([(bits & other) != 0 for other in asked])
