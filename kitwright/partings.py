"""How sound sets part suspects: lots of suspects are told by the bits of numbers."""

from kitwright.culprits import is_in
from kitwright.lots import lot_bits
from kitwright.sets import sound_sets


class Partings:
    """Suspects, and for each lot of them that some sound set has in it the first such set."""

    def __init__(self, registry, roots, suspects):
        self.suspects = suspects
        self.whole = (1 << len(suspects)) - 1
        self.sets = {}
        for chosen in sound_sets(registry, roots):
            self.sets.setdefault(self.bits_in(chosen), chosen)
        self.depths = {}

    def bits_in(self, chosen):
        """The lot of the suspects that are in a set."""
        return lot_bits([at for at, culprit in enumerate(self.suspects) if is_in(culprit, chosen)])

    def bits_of(self, names):
        """The lot of some suspects."""
        return lot_bits([self.suspects.index(culprit) for culprit in names])

    def names(self, lot):
        """The ascending tuple of the suspects of a lot."""
        return tuple([culprit for at, culprit in enumerate(self.suspects) if (lot >> at) & 1])

    def parts(self, lot):
        """The ascending list of what sets that part a lot have of it."""
        found = sorted(set([lot & within for within in self.sets]))
        return [within for within in found if within not in (0, lot)]

    def depth(self, lot):
        """The least depth of a plan for a lot, 0 if no set parts it."""
        if lot not in self.depths:
            self.depths[lot] = min([self.depth_behind(lot, within) for within in self.parts(lot)], default=0)
        return self.depths[lot]

    def depth_behind(self, lot, within):
        """The least depth of a plan for a lot that begins with a set that has a part of it; more for all or nothing."""
        return 1 + max(self.depth(within), self.depth(lot & ~within))

    def best(self, lot):
        """What a set that begins a plan with the least depth for a lot that is parted has of all suspects."""
        return [within for within in self.sets if self.depth_behind(lot, lot & within) == self.depth(lot)][0]
