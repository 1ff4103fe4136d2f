"""What trials that worked or failed tell for certain of the culprits, and of the sets that have them."""

from kitwright.best import best_of
from kitwright.checks import check_ranked, check_roots, check_set
from kitwright.clauses import given_clauses
from kitwright.culprits import (
    Told, are_culprits, check_theory, culprits_of, is_culprit_of, is_in, is_trial_index, told_by)
from kitwright.derivers import derived
from kitwright.errors import BadCulprits, BadIndex, BadNumber, BadTheory, TooMany
from kitwright.hunting import has_theory, hunted, is_hunt_of, least_theory
from kitwright.lots import least_meeting, lots_at
from kitwright.registries import check_registry
from kitwright.spaces import Space
from kitwright.values import is_index, is_list, is_tuple_of

MOST_OTHERS = 3
MOST_TAKEN = 3
MOST_BARRED = 20
MOST_OPEN = 12


def is_culprit(registry, value):
    """Whether any value is a culprit of the registry."""
    check_registry(registry)
    return is_culprit_of(registry, value)


def culprits_in(registry, chosen):
    """The ascending list of the culprits in a set."""
    check_registry(registry)
    check_set(registry, chosen)
    return culprits_of(chosen)


def open_culprits(registry, trials):
    """The ascending list of the culprits that are in the set of no trial that worked."""
    return told_by(registry, trials).doubted


def fails_by(registry, theory, chosen):
    """Whether a culprit of a theory is in a set."""
    check_registry(registry)
    if not are_culprits(registry, theory):
        raise BadTheory("an ascending tuple of different culprits is wanted")
    check_set(registry, chosen)
    return any([is_in(culprit, chosen) for culprit in theory])


def is_fitting(registry, trials, value):
    """Whether any value is a theory by which just those trials fail that did."""
    told = told_by(registry, trials)
    return are_culprits(registry, value) and told.fits(value)


def contradiction(registry, trials):
    """The least index of a failed trial all of whose culprits are cleared, and how; None if some theory fits."""
    told = told_by(registry, trials)
    at = told.unexplained()
    return None if at is None else (at, told.clearing(culprits_of(told.failed[at])))


def is_contradiction(registry, trials, value):
    """Whether any value is an index of a failed trial, and a clearing of all culprits in its set."""
    told = told_by(registry, trials)
    if not is_tuple_of(value, 2) or not is_trial_index(told.failed, value[0]):
        return False
    return told.is_clearing(registry, culprits_of(told.failed[value[0]]), value[1])


def others_of(told, at, chosen):
    """The ascending list of the culprits in the set of a failed trial that are not in another set."""
    return [culprit for culprit in culprits_of(told.failed[at]) if not is_in(culprit, chosen)]


def failing_index(told, chosen):
    """The least index of a failed trial all of whose open culprits are in a set, None if there is none."""
    return min(
        [at for at, lot in told.blamed.items() if all([is_in(culprit, chosen) for culprit in lot])], default=None)


def two_theories(told, chosen):
    """Theories that fit, by the first of which an open set works, while it fails by the second one."""
    blamed = [[culprit for culprit in lot if not is_in(culprit, chosen)] for lot in told.blamed.values()]
    works = sorted(set([lot[0] for lot in blamed]))
    return tuple(works), tuple(sorted([told.open_in(chosen)[0], *works]))


def verdict_of(told, chosen):
    """The verdict on a set, if some theory fits the trials."""
    if not told.open_in(chosen):
        return "works", told.clearing(culprits_of(chosen))
    at = failing_index(told, chosen)
    if at is not None:
        return "fails", at, told.clearing(others_of(told, at, chosen))
    works, fails = two_theories(told, chosen)
    return "open", works, fails


def told_of_set(registry, trials, chosen):
    """What trials tell, behind what is no set as well, and behind trials that no theory fits."""
    told = told_by(registry, trials)
    check_set(registry, chosen)
    check_theory(told)
    return told


def told_of_all(registry, trials):
    """What trials tell, behind trials that no theory fits."""
    told = told_by(registry, trials)
    check_theory(told)
    return told


def verdict(registry, trials, chosen):
    """Whether a set surely works, surely fails or is open, with what shows it."""
    return verdict_of(told_of_set(registry, trials, chosen), chosen)


def is_failing(registry, told, chosen, at, value):
    """Whether a failed trial, and any value as a clearing of what is not in a set, show that this set surely fails."""
    return is_trial_index(told.failed, at) and told.is_clearing(registry, others_of(told, at, chosen), value)


def is_open(registry, told, chosen, one, other):
    """Whether any values are theories that fit, by the first of which a set works, while it fails by the second one."""
    if not all([are_culprits(registry, theory) and told.fits(theory) for theory in (one, other)]):
        return False
    return not any([is_in(culprit, chosen) for culprit in one]) and any([is_in(culprit, chosen) for culprit in other])


def is_verdict(registry, trials, chosen, value):
    """Whether any value is a verdict on a set."""
    told = told_of_set(registry, trials, chosen)
    if is_tuple_of(value, 2):
        return value[0] == "works" and told.is_clearing(registry, culprits_of(chosen), value[1])
    if not is_tuple_of(value, 3):
        return False
    if value[0] == "fails":
        return is_failing(registry, told, chosen, value[1], value[2])
    return value[0] == "open" and is_open(registry, told, chosen, value[1], value[2])


def sure_ones(told):
    """The ascending list of the culprits that are the only open ones in the set of some failed trial."""
    return sorted(set([lot[0] for lot in told.blamed.values() if len(lot) == 1]))


def sure_culprits(registry, trials):
    """The ascending list of the culprits that stand in each theory that fits."""
    return sure_ones(told_of_all(registry, trials))


def pairs_clause(pairs):
    """The clause that bars all sets that have all of some pairs."""
    return tuple([(kit, (version,)) for kit, version in pairs])


def wary_of(told):
    """The clauses that just the sets keep that surely work."""
    return [pairs_clause(culprit) for culprit in told.doubted]


def hopeful_of(told):
    """The clauses that just the sets keep that do not surely fail."""
    pairs = [sorted(set([pair for culprit in lot for pair in culprit])) for lot in told.blamed.values()]
    return sorted(set([pairs_clause(row) for row in pairs]))


def wary_clauses(registry, trials):
    """The ascending list of the clauses of the open culprits."""
    return wary_of(told_of_all(registry, trials))


def hopeful_clauses(registry, trials):
    """The ascending list of the clauses of what is open in the sets of failed trials."""
    return hopeful_of(told_of_all(registry, trials))


def told_of_best(registry, roots, trials, ranked):
    """What trials tell, behind what are no roots, and what is no order of the kits, as well."""
    check_registry(registry)
    check_roots(roots)
    told = told_by(registry, trials)
    check_ranked(registry, ranked)
    check_theory(told)
    return told


def best_keeping(registry, roots, ranked, clauses):
    """The best sound set that keeps some clauses, or a refutation that shows that there is none."""
    space = Space(registry)
    chosen = best_of(space, space.sound(roots) & ~space.barred_by_any(clauses), ranked)
    if chosen is not None:
        return "set", chosen
    return "refutation", derived(space, sorted(set(given_clauses(registry, roots) + clauses)), ())


def safest(registry, roots, trials, ranked):
    """The best sound set that surely works, or a refutation that shows that there is none."""
    told = told_of_best(registry, roots, trials, ranked)
    return best_keeping(registry, roots, ranked, wary_of(told))


def boldest(registry, roots, trials, ranked):
    """The best sound set that does not surely fail, or a refutation that shows that there is none."""
    told = told_of_best(registry, roots, trials, ranked)
    return best_keeping(registry, roots, ranked, hopeful_of(told))


def check_many(many):
    """Refuses what is no number from 0 to 3."""
    if not is_index(many, MOST_OTHERS + 1):
        raise BadNumber("a number from 0 to 3 is wanted")


def are_different(registry, value, most):
    """Whether any value is a list of so many different culprits at most."""
    if not is_list(value) or len(value) > most or not all([is_culprit_of(registry, item) for item in value]):
        return False
    return len(set(value)) == len(value)


def told_of_hunt(registry, trials, many, taken, barred):
    """What trials tell, behind what is asked of a hunt as well."""
    told = told_by(registry, trials)
    check_many(many)
    if not are_different(registry, taken, MOST_TAKEN) or not all([culprit in told.doubted for culprit in taken]):
        raise BadCulprits("taken")
    if not are_different(registry, barred, MOST_BARRED) or any([culprit in taken for culprit in barred]):
        raise BadCulprits("barred")
    check_theory(told)
    return told


def few_culprits(registry, trials, many, taken, barred):
    """A theory that fits, with all that is taken, nothing barred, and few others, or a hunt that shows none does."""
    return hunted(told_of_hunt(registry, trials, many, taken, barred), many, taken, barred)


def is_hunt(registry, trials, many, taken, barred, value):
    """Whether any value is a hunt for a number of others, what is taken and what is barred."""
    told = told_of_hunt(registry, trials, many, taken, barred)
    return is_hunt_of(registry, told, many, taken, barred, value)


def fewest(registry, trials):
    """The least number of culprits of a theory that fits, and such a theory."""
    theory = least_theory(told_of_all(registry, trials))
    return len(theory), theory


def told_within(registry, trials, chosen, many):
    """Whether a set works or fails by all theories that fit with so few culprits; None if there are none."""
    told = told_by(registry, trials)
    check_set(registry, chosen)
    check_many(many)
    check_theory(told)
    works = has_theory(told, many, [], culprits_of(chosen))
    fails = many > 0 and any([has_theory(told, many - 1, [culprit], []) for culprit in told.open_in(chosen)])
    if works and fails:
        return "open"
    if not works and not fails:
        return None
    return "works" if works else "fails"


def least_theories(registry, trials):
    """The list of the theories that fit, while none does with some of their culprits alone."""
    told = told_of_all(registry, trials)
    asked = sorted(set([culprit for lot in told.blamed.values() for culprit in lot]))
    if len(asked) > MOST_OPEN:
        raise TooMany(MOST_OPEN)
    lots = [[asked.index(culprit) for culprit in lot] for lot in told.blamed.values()]
    return lots_at(asked, least_meeting(lots, len(asked)))


def is_needless(registry, trials, at):
    """Whether each theory that fits the other trials fits the one with an index, too."""
    told = told_by(registry, trials)
    if not is_index(at, len(trials)):
        raise BadIndex(at)
    check_theory(told)
    chosen, worked = trials[at]
    others = [trial for index, trial in enumerate(trials) if index != at]
    return verdict_of(Told(registry, others), chosen)[0] == ("works" if worked else "fails")
