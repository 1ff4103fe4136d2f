"""Trials of small registries, drawn by a generator with a seed, and the tests' own look at all theories."""

import itertools
import random

from tests.samples import ALL, EMPTY, HIGH, LOW, V1, V2, plain_sets, some_ranges

KITS = "abc"


def some_house(rng, most_kits=3, most_culprits=13):
    """Kits in one or two versions, so few that all theories can be tried."""
    while True:
        names = KITS[:rng.choice([1, 2, 2, 3, 3, 3][:2 * most_kits])]
        kits = {}
        for name in names:
            kits[name] = {}
            for version in (V1, V2)[:rng.choice([1, 2, 2])]:
                others = [other for other in names if other != name]
                wants = {other: rng.choice([ALL, LOW, HIGH]) for other in others if rng.random() < 0.15}
                bars = {other: rng.choice([LOW, HIGH]) for other in others if rng.random() < 0.1}
                kits[name][version] = (wants, bars, ())
        if len(plain_culprits(kits)) <= most_culprits:
            return kits


def some_trials(rng, kits, most=6, flips=0.0):
    """Trials that go as hidden culprits make them go, but for some that go the other way about."""
    culprits, sets = plain_culprits(kits), plain_sets(kits)
    hidden = rng.sample(culprits, min(len(culprits), rng.choice([0, 1, 1, 1, 2, 2, 3])))
    found = []
    for _ in range(rng.randint(0, most)):
        chosen = dict(rng.choice(sets))
        worked = not any(lies_in(culprit, chosen) for culprit in hidden)
        found.append((chosen, worked != (rng.random() < flips)))
    return found


def trial_cases(seed, many, flips=0.0, most=6, **more):
    """Triples of a generator, the look at trials that some theory fits, and roots."""
    rng = random.Random(seed)
    while many > 0:
        kits = some_house(rng, **more)
        look = Look(kits, some_trials(rng, kits, most, flips))
        if look.fitting:
            many -= 1
            yield rng, look, some_ranges_of(rng, kits)


def some_ranges_of(rng, kits):
    """Roots, mostly of few kits."""
    return {} if rng.random() < 0.5 else some_ranges(rng, sorted(kits), 1)


def contrary_cases(seed, many):
    """Pairs of a generator and the look at trials that no theory fits."""
    rng = random.Random(seed)
    while many > 0:
        kits = some_house(rng)
        look = Look(kits, some_trials(rng, kits, 8, 0.4))
        if not look.fitting:
            many -= 1
            yield rng, look


def lies_in(culprit, chosen):
    """Whether a set has all pairs of a culprit."""
    return all(chosen.get(kit) == version for kit, version in culprit)


def plain_culprits(kits):
    """All culprits of a registry, ascending."""
    pairs = [(kit, version) for kit in kits for version in kits[kit]]
    doubles = [tuple(sorted(pair)) for pair in itertools.combinations(pairs, 2) if pair[0][0] != pair[1][0]]
    return sorted([(pair,) for pair in pairs] + doubles)


class Look:
    """All theories of a registry as bits, and those that fit some trials."""

    def __init__(self, kits, trials):
        self.kits = kits
        self.trials = trials
        self.culprits = plain_culprits(kits)
        self.all = range(1 << len(self.culprits))
        self.fitting = self.fit(trials)

    def bits(self, chosen):
        """The culprits in a set, as bits."""
        return sum(1 << at for at, culprit in enumerate(self.culprits) if lies_in(culprit, chosen))

    def fit(self, trials):
        """The theories that fit some trials."""
        asked = [(self.bits(chosen), worked) for chosen, worked in trials]
        return [theory for theory in self.all if all((theory & bits == 0) == worked for bits, worked in asked)]

    def theory(self, bits):
        """A theory as a tuple."""
        return tuple(culprit for at, culprit in enumerate(self.culprits) if bits >> at & 1)

    def mask(self, theory):
        """A theory as bits."""
        return sum(1 << self.culprits.index(culprit) for culprit in theory)

    def word(self, chosen, theories=None):
        """How a set goes by all of some theories."""
        bits = self.bits(chosen)
        words = {"fails" if theory & bits else "works" for theory in (self.fitting if theories is None else theories)}
        return "open" if len(words) > 1 else next(iter(words), None)

    def cleared(self, trials=None):
        """The culprits that are in the set of a trial that worked."""
        told = self.trials if trials is None else trials
        return [culprit for culprit in self.culprits if any(worked and lies_in(culprit, chosen) for chosen, worked in told)]

    def sure(self, trials=None):
        """The culprits that stand in all theories that fit."""
        both = -1
        for theory in (self.fitting if trials is None else self.fit(trials)):
            both &= theory
        return [culprit for at, culprit in enumerate(self.culprits) if both >> at & 1]


def is_clearing(look, culprits, value):
    """Whether a dict clears just some culprits."""
    return set(value) == set(culprits) and all(
        look.trials[at][1] and lies_in(culprit, look.trials[at][0]) for culprit, at in value.items())


# Two kits in two versions that want nothing, with the two trials of the worked answers.
HAND = {"a": {V1: EMPTY, V2: EMPTY}, "b": {V1: EMPTY, V2: EMPTY}}
HAND_TRIALS = [({"a": V1, "b": V1}, True), ({"a": V2, "b": V1}, False)]
A2, A2B1 = (("a", V2),), (("a", V2), ("b", V1))
