"""Clauses: what each bars, those that registry and roots give, and how two of them are joined."""

from kitwright.checks import check_kit, check_roots, check_set, is_kit_of, is_state_of
from kitwright.errors import BadClause, BadClauses, NotShared
from kitwright.registries import check_registry
from kitwright.spaces import choice_of
from kitwright.values import is_list, is_rising, is_tuple_of

MOST_CLAUSES = 200


def is_told(registry, value):
    """Whether any value is a pair of a kit and an ascending tuple of some of its states, but not all."""
    if not is_tuple_of(value, 2) or not is_kit_of(registry, value[0]) or not isinstance(value[1], tuple):
        return False
    kit, states = value
    if not all([is_state_of(registry, kit, state) for state in states]) or not is_rising(states):
        return False
    return 1 <= len(states) <= len(registry.versions(kit))


def is_clause_of(registry, value):
    """Whether any value is a clause of the registry."""
    if not isinstance(value, tuple) or not all([is_told(registry, pair) for pair in value]):
        return False
    return is_rising([kit for kit, _ in value])


def check_clause(registry, clause):
    """Refuses what is no clause of the registry."""
    if not is_clause_of(registry, clause):
        raise BadClause("a clause of the registry is wanted")


def check_clauses(registry, clauses):
    """Refuses what is no list of at most 200 clauses of the registry."""
    if not is_list(clauses) or len(clauses) > MOST_CLAUSES:
        raise BadClauses(None)
    for at, clause in enumerate(clauses):
        if not is_clause_of(registry, clause):
            raise BadClauses(at)


def is_clause(registry, value):
    """Whether any value is a clause of the registry."""
    check_registry(registry)
    return is_clause_of(registry, value)


def keeps(registry, chosen, clause):
    """Whether a set is not barred by a clause."""
    check_registry(registry)
    check_set(registry, chosen)
    check_clause(registry, clause)
    return not all([chosen.get(kit, ()) in states for kit, states in clause])


def covers_all(one, other):
    """Whether one clause bars all that other bars."""
    told = dict(other)
    return all([kit in told and all([state in states for state in told[kit]]) for kit, states in one])


def covers(registry, one, other):
    """Whether one clause bars all sets that other bars."""
    check_registry(registry)
    check_clause(registry, one)
    check_clause(registry, other)
    return covers_all(one, other)


def versions_in(registry, kit, ranged):
    """The ascending tuple of the versions of a kit in a range; of a kit that is not there there is none."""
    if kit not in registry.kits:
        return ()
    return tuple([version for version in registry.versions(kit) if version in ranged])


def root_clause(registry, kit, ranged):
    """The clause that bars all states of a kit that are not in a range: () if no state of it is there."""
    within = versions_in(registry, kit, ranged)
    if not within:
        return ()
    return ((kit, ((),) + tuple([version for version in registry.versions(kit) if version not in within])),)


def want_clauses(registry, kit, version, wants):
    """The given clauses of what a version wants."""
    here = (kit, (version,))
    own = [(here,) for other in wants if other == kit and version not in wants[other]]
    return own + [
        tuple(sorted([here, *root_clause(registry, other, wants[other])])) for other in wants if other != kit]


def clash_clauses(registry, kit, version, clashes):
    """The given clauses of what a version bars."""
    here = (kit, (version,))
    own = [(here,) for other in clashes if other == kit and version in clashes[other]]
    barred = [(other, versions_in(registry, other, clashes[other])) for other in clashes if other != kit]
    return own + [tuple(sorted([here, pair])) for pair in barred if pair[1]]


def given_clauses(registry, roots):
    """The ascending list of the different clauses that registry and roots give."""
    check_registry(registry)
    check_roots(roots)
    found = [root_clause(registry, kit, ranged) for kit, ranged in roots.items()]
    for kit in registry.kits:
        for version in registry.versions(kit):
            wants, clashes, _ = registry.manifest(kit, version)
            found.extend(want_clauses(registry, kit, version, wants))
            found.extend(clash_clauses(registry, kit, version, clashes))
    return sorted(set(found))


def joined_clause(choice, one, other, kit):
    """The clause of two that both tell states of a kit, joined on it, None if there is none; choice: all states."""
    told, more = dict(one), dict(other)
    found = []
    for name in sorted(set([*told, *more])):
        if name == kit:
            states = sorted(set([*told[name], *more[name]]))
        elif name in told and name in more:
            states = [state for state in told[name] if state in more[name]]
        else:
            states = list(told.get(name, more.get(name)))
        if not states:
            return None
        if len(states) < len(choice[name]):
            found.append((name, tuple(states)))
    return tuple(found)


def tells(clause, kit):
    """Whether a clause tells states of a kit."""
    return any([name == kit for name, _ in clause])


def joined(registry, one, other, kit):
    """The joined clause of two on a kit, None if there is none."""
    check_registry(registry)
    check_clause(registry, one)
    check_clause(registry, other)
    check_kit(registry, kit)
    if not tells(one, kit) or not tells(other, kit):
        raise NotShared("both clauses have to tell states of the kit")
    return joined_clause(choice_of(registry), one, other, kit)
