"""Trying sets so that one culprit is found in as few trials as can be, and what one more trial would tell."""

from kitwright.checks import check_roots, check_set, is_set_of
from kitwright.culprits import Told, are_culprits, check_theory, told_by
from kitwright.errors import BadWorked, TooMany
from kitwright.partings import Partings
from kitwright.registries import check_registry
from kitwright.sets import is_sound, sound_sets
from kitwright.toldback import sure_ones, told_of_all, verdict_of
from kitwright.values import is_number, is_tuple_of

MOST_SUSPECTS = 12


def suspects_of(told):
    """The ascending list of the open culprits that are in the sets of all failed trials."""
    return [culprit for culprit in told.doubted if all([culprit in lot for lot in told.blamed.values()])]


def suspects(registry, trials):
    """The ascending list of the culprits that are theories alone."""
    return suspects_of(told_of_all(registry, trials))


def told_of_roots(registry, roots, trials):
    """What trials tell, behind what are no roots, and behind trials that no theory fits."""
    check_registry(registry)
    check_roots(roots)
    return told_of_all(registry, trials)


def partings_of(registry, roots, trials):
    """How sound sets part the suspects, if there are at most 12 of these."""
    found = suspects_of(told_of_roots(registry, roots, trials))
    if len(found) > MOST_SUSPECTS:
        raise TooMany(MOST_SUSPECTS)
    return Partings(registry, roots, found)


def plan_of(partings, lot):
    """A plan with the least depth for some suspects, told by bits."""
    if partings.depth(lot) == 0:
        return "these", partings.names(lot)
    tried = partings.best(lot)
    return "try", dict(partings.sets[tried]), plan_of(partings, lot & ~tried), plan_of(partings, lot & tried)


def plan_for(registry, roots, trials):
    """A plan for all suspects with the least depth, None if there are none."""
    partings = partings_of(registry, roots, trials)
    return plan_of(partings, partings.whole) if partings.whole else None


def is_plan_of(registry, roots, partings, lot, value):
    """Whether any value is a plan for some suspects, told by bits."""
    if is_tuple_of(value, 2):
        return value[0] == "these" and are_culprits(registry, value[1]) and value[1] == partings.names(
            lot) and not partings.parts(lot)
    if not is_tuple_of(value, 4) or value[0] != "try" or not is_set_of(registry, value[1]):
        return False
    within = lot & partings.bits_in(value[1])
    if within in (0, lot) or not is_sound(registry, roots, value[1]):
        return False
    return is_plan_of(registry, roots, partings, lot & ~within, value[2]) and is_plan_of(
        registry, roots, partings, within, value[3])


def is_plan_for(registry, roots, trials, value):
    """Whether any value is a plan for all suspects, of any depth."""
    partings = partings_of(registry, roots, trials)
    return partings.whole != 0 and is_plan_of(registry, roots, partings, partings.whole, value)


def tries(registry, roots, trials):
    """The least depth of a plan for all suspects, None if there are none."""
    partings = partings_of(registry, roots, trials)
    return partings.depth(partings.whole) if partings.whole else None


def deeper_part(partings, lot, within):
    """The one of both parts of some suspects that needs the deeper plan."""
    rest = lot & ~within
    return within if partings.depth(within) > partings.depth(rest) else rest


def floor_for(registry, roots, trials):
    """A floor that has all suspects with the least depth of a plan, {} if this is 0 or if there are none."""
    partings = partings_of(registry, roots, trials)
    lots = [partings.whole] if partings.depth(partings.whole) > 0 else []
    at = 0
    while at < len(lots):
        if partings.depth(lots[at]) > 1:
            needed = sorted(set([deeper_part(partings, lots[at], within) for within in partings.parts(lots[at])]))
            lots.extend([lot for lot in needed if lot not in lots])
        at += 1
    found = {partings.names(lot): partings.depth(lot) for lot in lots}
    return {key: found[key] for key in sorted(found)}


def is_upheld(partings, numbers, lot):
    """Whether some suspects are parted, and each parting leaves a part with a number less by at most 1."""
    parts = partings.parts(lot)
    return len(parts) > 0 and all([
        max(numbers.get(within, 0), numbers.get(lot & ~within, 0)) >= numbers[lot] - 1 for within in parts])


def is_floor(registry, roots, trials, value):
    """Whether any value is a floor."""
    told = told_of_roots(registry, roots, trials)
    names = suspects_of(told)
    if not isinstance(value, dict) or not all([is_floor_row(registry, names, key, value[key]) for key in value]):
        return False
    partings = Partings(registry, roots, names)
    numbers = {partings.bits_of(key): number for key, number in value.items()}
    return all([is_upheld(partings, numbers, lot) for lot in numbers])


def is_floor_row(registry, names, key, number):
    """Whether any values are an ascending tuple of suspects and a number from 1."""
    if not are_culprits(registry, key) or not all([culprit in names for culprit in key]):
        return False
    return is_number(number) and number >= 1


def would_tell(registry, trials, chosen, worked):
    """What would be cleared, and what would be sure, by one more trial; None if it can not go so."""
    told = told_by(registry, trials)
    check_set(registry, chosen)
    if not isinstance(worked, bool):
        raise BadWorked("True or False is wanted")
    check_theory(told)
    later = Told(registry, [*trials, (chosen, worked)])
    if later.unexplained() is not None:
        return None
    cleared = [culprit for culprit in told.doubted if culprit not in later.doubted]
    return cleared, [culprit for culprit in sure_ones(later) if culprit not in sure_ones(told)]


def worth_trying(registry, roots, trials):
    """The ascending list of the sound sets that are open."""
    told = told_of_roots(registry, roots, trials)
    return [chosen for chosen in sound_sets(registry, roots) if verdict_of(told, chosen)[0] == "open"]
