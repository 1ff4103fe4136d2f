"""The search for theories with few culprits, and hunts that show that there are none."""

from kitwright.culprits import is_culprit_of, is_trial_index
from kitwright.values import is_tuple_of


def is_unhit(told, at, taken):
    """Whether none of some open culprits is in the set of a failed trial."""
    return not any([culprit in told.blamed[at] for culprit in taken])


def branching(told, many, barred, at):
    """The open culprits in the set of a failed trial that can be taken besides; none if no others may be taken."""
    return [culprit for culprit in told.blamed[at] if culprit not in barred] if many > 0 else []


def hunted(told, many, taken, barred):
    """A theory with all that is taken, nothing barred and few others; a hunt that shows that none fits otherwise."""
    at = min([index for index in told.failed if is_unhit(told, index, taken)], default=None)
    if at is None:
        return "theory", tuple(sorted(taken))
    branches = {}
    for culprit in branching(told, many, barred, at):
        word, found = hunted(told, many - 1, [*taken, culprit], barred)
        if word == "theory":
            return word, found
        branches[culprit] = found
    return "hunt", (at, branches)


def has_theory(told, many, taken, barred):
    """Whether a theory fits that has all that is taken, nothing barred and few others."""
    return hunted(told, many, taken, barred)[0] == "theory"


def is_hunt_of(registry, told, many, taken, barred, value):
    """Whether any value is a hunt for a number of others, what is taken and what is barred."""
    if not is_tuple_of(value, 2) or not is_trial_index(told.failed, value[0]) or not isinstance(value[1], dict):
        return False
    at, branches = value
    if not is_unhit(told, at, taken) or not all([is_culprit_of(registry, culprit) for culprit in branches]):
        return False
    asked = branching(told, many, barred, at)
    return len(branches) == len(asked) and all([
        culprit in branches and is_hunt_of(registry, told, many - 1, [*taken, culprit], barred, branches[culprit])
        for culprit in asked])


def trial_bits(told, culprit):
    """The failed trials that have a culprit in their sets, as the bits of a number."""
    return sum([1 << at for at, lot in told.blamed.items() if culprit in lot])


def least_theory(told):
    """A theory that fits with as few culprits as can be, if there is one that fits."""
    bits = {culprit: trial_bits(told, culprit) for culprit in told.doubted}
    wanted = sum([1 << at for at in told.failed])
    found = {0: ()}
    lots = [0]
    while wanted not in found:
        more = []
        for lot in lots:
            for culprit in told.doubted:
                if lot | bits[culprit] not in found:
                    found[lot | bits[culprit]] = found[lot] + (culprit,)
                    more.append(lot | bits[culprit])
        lots = more
    return tuple(sorted(found[wanted]))
