"""What follows from clauses: derivations, refutations, and the strongest of what follows."""

from kitwright.boxes import greatest_clauses
from kitwright.clauses import check_clause, check_clauses, covers_all, joined_clause, tells
from kitwright.derivers import derived
from kitwright.errors import BadRows, TooMany
from kitwright.registries import check_registry
from kitwright.spaces import Space, choice_of
from kitwright.values import is_index, is_list, is_tuple_of

MOST_STRONGEST = 200


def check_parts(registry, clauses):
    """Refuses what is no registry and what are no clauses, in this order."""
    check_registry(registry)
    check_clauses(registry, clauses)


def row_clause(choice, clauses, ahead, row):
    """The clause of any value as the next row behind those with clauses, None if it is no such row."""
    if is_tuple_of(row, 2) and row[0] == "given" and is_index(row[1], len(clauses)):
        return clauses[row[1]]
    if not is_tuple_of(row, 4) or row[0] != "joined":
        return None
    _, one, other, kit = row
    if not is_index(one, len(ahead)) or not is_index(other, len(ahead)):
        return None
    if not tells(ahead[one], kit) or not tells(ahead[other], kit):
        return None
    return joined_clause(choice, ahead[one], ahead[other], kit)


def row_clauses(registry, clauses, value):
    """The clauses of the rows of a derivation."""
    check_parts(registry, clauses)
    if not is_list(value) or not value:
        raise BadRows(None)
    choice = choice_of(registry)
    found = []
    for at, row in enumerate(value):
        clause = row_clause(choice, clauses, found, row)
        if clause is None:
            raise BadRows(at)
        found.append(clause)
    return found


def shows(registry, clauses, clause, value):
    """Whether any value is a derivation that shows a clause."""
    try:
        found = row_clauses(registry, clauses, value)
    except BadRows:
        return False
    return covers_all(found[-1], clause)


def derivation(registry, clauses, clause):
    """A derivation that shows a clause, None if it does not follow."""
    check_parts(registry, clauses)
    check_clause(registry, clause)
    return derived(Space(registry), clauses, clause)


def is_derivation(registry, clauses, clause, value):
    """Whether any value is a derivation that shows a clause."""
    check_parts(registry, clauses)
    check_clause(registry, clause)
    return shows(registry, clauses, clause, value)


def refutation(registry, clauses):
    """A derivation that shows (), None if some set keeps all clauses."""
    return derivation(registry, clauses, ())


def is_refutation(registry, clauses, value):
    """Whether any value is a derivation that shows ()."""
    return is_derivation(registry, clauses, (), value)


def stray(registry, clauses, clause):
    """The first set that keeps all clauses and not the one, None if this one follows."""
    check_parts(registry, clauses)
    check_clause(registry, clause)
    space = Space(registry)
    return space.first_set(space.barred(clause) & ~space.barred_by_any(clauses))


def strongest(registry, clauses):
    """The ascending list of the clauses that follow and that no other clause that follows covers."""
    check_parts(registry, clauses)
    space = Space(registry)
    found = sorted(greatest_clauses(space, space.barred_by_any(clauses)))
    if len(found) > MOST_STRONGEST:
        raise TooMany(MOST_STRONGEST)
    return found


def needless(registry, clauses):
    """The ascending tuple of the indexes of the clauses each of which follows from all others."""
    check_parts(registry, clauses)
    space = Space(registry)
    bars = [space.barred(clause) for clause in clauses]
    once = twice = 0
    for bar in bars:
        twice = twice | (once & bar)
        once = once | bar
    return tuple([at for at, bar in enumerate(bars) if not bar & ~twice])
