"""Culprits, one or two versions that make each set fail in which they are, and what trials tell of them."""

from itertools import combinations

from kitwright.checks import is_set_of
from kitwright.errors import BadTrials, NoTheory
from kitwright.pairs import all_pairs, is_pair
from kitwright.registries import check_registry
from kitwright.values import is_list, is_number, is_rising, is_tuple_of

MOST_TRIALS = 12


def is_culprit_of(registry, value):
    """Whether any value is a culprit of the registry."""
    if not is_tuple_of(value, 1) and not is_tuple_of(value, 2):
        return False
    return all([is_pair(registry, pair) for pair in value]) and is_rising([kit for kit, _ in value])


def are_culprits(registry, value):
    """Whether any value is an ascending tuple of different culprits of the registry."""
    return isinstance(value, tuple) and all([is_culprit_of(registry, item) for item in value]) and is_rising(value)


def culprits_among(pairs):
    """The ascending list of the culprits of some pairs, which ascend."""
    doubles = [(one, other) for one, other in combinations(pairs, 2) if one[0] != other[0]]
    return sorted([(pair,) for pair in pairs] + doubles)


def culprits_of(chosen):
    """The ascending list of the culprits in a set."""
    return culprits_among(sorted(chosen.items()))


def is_in(culprit, chosen):
    """Whether a set has all pairs of a culprit."""
    return all([chosen.get(kit) == version for kit, version in culprit])


def is_trial(registry, value):
    """Whether any value is a trial of a set of the registry."""
    return is_tuple_of(value, 2) and is_set_of(registry, value[0]) and isinstance(value[1], bool)


def check_trials(registry, trials):
    """Refuses what is no list of at most 12 trials."""
    if not is_list(trials) or len(trials) > MOST_TRIALS:
        raise BadTrials(None)
    for at, trial in enumerate(trials):
        if not is_trial(registry, trial):
            raise BadTrials(at)


class Told:
    """What trials tell: which culprits are open, and which of these are in the sets of failed trials."""

    def __init__(self, registry, trials):
        self.worked = {at: chosen for at, (chosen, worked) in enumerate(trials) if worked}
        self.doubted = [
            culprit for culprit in culprits_among(all_pairs(registry))
            if not any([is_in(culprit, chosen) for chosen in self.worked.values()])]
        self.failed = {at: chosen for at, (chosen, worked) in enumerate(trials) if not worked}
        self.blamed = {at: self.open_in(chosen) for at, chosen in self.failed.items()}

    def open_in(self, chosen):
        """The ascending list of the open culprits in a set."""
        return [culprit for culprit in self.doubted if is_in(culprit, chosen)]

    def unexplained(self):
        """The least index of a failed trial in whose set all culprits are cleared, None if there is none."""
        return min([at for at, culprits in self.blamed.items() if not culprits], default=None)

    def fits(self, theory):
        """Whether by a theory just those trials fail that did."""
        return all([culprit in self.doubted for culprit in theory]) and all(
            [any([culprit in theory for culprit in culprits]) for culprits in self.blamed.values()])

    def clearing(self, culprits):
        """The dict from cleared culprits to the least indexes of trials that worked with them in the set."""
        return {
            culprit: min([at for at, chosen in self.worked.items() if is_in(culprit, chosen)]) for culprit in culprits}

    def is_clearing(self, registry, culprits, value):
        """Whether any value is a dict from just some culprits to indexes of trials that worked with them."""
        if not isinstance(value, dict) or not all([is_culprit_of(registry, culprit) for culprit in value]):
            return False
        return len(value) == len(culprits) and all(
            [culprit in value and self.clears(culprit, value[culprit]) for culprit in culprits])

    def clears(self, culprit, value):
        """Whether any value is an index of a trial that worked with a culprit in its set."""
        return is_trial_index(self.worked, value) and is_in(culprit, self.worked[value])


def is_trial_index(told, value):
    """Whether any value is one of the indexes of trials for which a dict tells something."""
    return is_number(value) and value in told


def told_by(registry, trials):
    """What trials tell, behind what is no registry, and what are no trials."""
    check_registry(registry)
    check_trials(registry, trials)
    return Told(registry, trials)


def check_theory(told):
    """Refuses trials that no theory fits."""
    at = told.unexplained()
    if at is not None:
        raise NoTheory(at)
