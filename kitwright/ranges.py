"""Kits, versions and Ranges: exact sets of versions."""

from kitwright.errors import BadRange, BadVersion, BadVersions, NotRange
from kitwright.stretches import Normal, all_but, common, normal_form
from kitwright.values import is_list, is_number, is_rising, is_tuple_of

LETTERS = "abcdefghijklmnopqrstuvwxyz"
MOST_STRETCHES = 40
MOST_VERSIONS = 40


def is_kit(value):
    """Whether any value is a kit: a string of 1 to 8 letters a to z."""
    return isinstance(value, str) and 1 <= len(value) <= 8 and all([letter in LETTERS for letter in value])


def is_version(value):
    """Whether any value is a version: a tuple of three numbers from 0 on."""
    return is_tuple_of(value, 3) and all([is_number(number) and number >= 0 for number in value])


def check_version(version):
    """Refuses what is no version."""
    if not is_version(version):
        raise BadVersion("a version is wanted")


def check_range(ranged):
    """Refuses what is no Range."""
    if not isinstance(ranged, Range):
        raise NotRange("a Range is wanted")


def next_version(version):
    """The version (a, b, c + 1) behind (a, b, c): there is none between."""
    check_version(version)
    return version[0], version[1], version[2] + 1


def is_stretch(value):
    """Whether any value is a pair of a version and a later one, or None."""
    if not is_tuple_of(value, 2) or not is_version(value[0]):
        return False
    return value[1] is None or (is_version(value[1]) and value[0] < value[1])


def check_stretches(stretches):
    """Refuses what is no list of at most 40 stretches."""
    if not is_list(stretches) or len(stretches) > MOST_STRETCHES:
        raise BadRange(None)
    for at, stretch in enumerate(stretches):
        if not is_stretch(stretch):
            raise BadRange(at)


class Range:
    """The versions of some stretches; it never changes."""

    def __init__(self, stretches=()):
        if isinstance(stretches, Normal):
            self._stretches = stretches.rows
        else:
            check_stretches(stretches)
            self._stretches = normal_form(stretches)

    @property
    def stretches(self):
        """The normal form: ascending, each high less than the next low."""
        return self._stretches

    def __contains__(self, x):
        return is_version(x) and any([low <= x and (high is None or x < high) for low, high in self._stretches])

    def __eq__(self, other):
        return isinstance(other, Range) and self._stretches == other._stretches

    def __repr__(self):
        return f"Range({list(self._stretches)!r})"

    def __and__(self, other):
        check_range(other)
        return Range(Normal(common(self._stretches, other._stretches)))

    def __or__(self, other):
        check_range(other)
        neither = common(all_but(self._stretches), all_but(other._stretches))
        return Range(Normal(all_but(neither)))

    def __sub__(self, other):
        check_range(other)
        return Range(Normal(common(self._stretches, all_but(other._stretches))))

    def __invert__(self):
        return Range(Normal(all_but(self._stretches)))

    # What is no Range ahead of the sign is refused like what is none behind it.
    def __rand__(self, other):
        raise NotRange("a Range is wanted")

    def __ror__(self, other):
        raise NotRange("a Range is wanted")

    def __rsub__(self, other):
        raise NotRange("a Range is wanted")


def range_of(stretches):
    """The Range of a list of stretches, however many."""
    return Range(Normal(normal_form(stretches)))


def copied_range(ranged):
    """A new Range, equal to one."""
    return Range(Normal(ranged.stretches))


def is_within(one, other):
    """Whether all versions of one are in other."""
    check_range(one)
    check_range(other)
    return not (one - other).stretches


def first_in(ranged, version):
    """The least version of the range from this one on, None if there is none."""
    check_range(ranged)
    check_version(version)
    for low, high in ranged.stretches:
        if high is None or version < high:
            return max(low, version)
    return None


def first_unlike(one, other):
    """The least version that is in just one of both, None if they are equal."""
    check_range(one)
    check_range(other)
    unlike = (one - other) | (other - one)
    return unlike.stretches[0][0] if unlike.stretches else None


def last_in(ranged):
    """The greatest version of the range, None if there is none."""
    check_range(ranged)
    if not ranged.stretches:
        return None
    high = ranged.stretches[-1][1]
    # Endlessly many versions without a last one are less than (a, b, 0).
    if high is None or high[2] == 0:
        return None
    return high[0], high[1], high[2] - 1


def is_versions(value):
    """Whether any value is a list of at most 40 versions."""
    return is_list(value) and len(value) <= MOST_VERSIONS and all([is_version(item) for item in value])


def check_sides(inside, outside):
    """Refuses what are no two lists of versions."""
    if not is_versions(inside):
        raise BadVersions("inside")
    if not is_versions(outside):
        raise BadVersions("outside")


def runs_of(inside, outside):
    """All versions, ascending, as pairs (side, run): side is True for a run of neighbours of inside."""
    sides = [(version, True) for version in inside] + [(version, False) for version in outside]
    runs = []
    for version, side in sorted(sides):
        if runs and runs[-1][0] == side:
            runs[-1][1].append(version)
        else:
            runs.append((side, [version]))
    return runs


def parting(inside, outside):
    """The least range of those with the fewest stretches that have all of inside and none of outside, or None."""
    check_sides(inside, outside)
    if any([version in outside for version in inside]):
        return None
    return Range([(run[0], next_version(run[-1])) for side, run in runs_of(inside, outside) if side])


def widest_parting(inside, outside):
    """The greatest range of those that part both and lack the fewest stretches, or None."""
    check_sides(inside, outside)
    narrow = parting(outside, inside)
    return None if narrow is None else ~narrow


def alternation(inside, outside):
    """The least of the longest tuples by turns of inside and of outside, or None."""
    check_sides(inside, outside)
    if any([version in outside for version in inside]):
        return None
    runs = runs_of(inside, outside)
    turns = [at for at, run in enumerate(runs) if run[0]]
    if not turns:
        return ()
    return tuple([run[0] for _, run in runs[turns[0]:turns[-1] + 1]])


def is_alternation(inside, outside, value):
    """Whether any value is a tuple of rising versions by turns of inside and outside, from inside to inside."""
    check_sides(inside, outside)
    if not isinstance(value, tuple) or not all([is_version(version) for version in value]):
        return False
    if len(value) & 1 == 0 or not is_rising(value):
        return value == ()
    return all([version in (outside if at & 1 else inside) for at, version in enumerate(value)])
