"""Logs of projects: deeds with the sets held behind them, judged, replayed and shortened."""

from kitwright.checks import check_index, is_set_of
from kitwright.deeds import do_deed, is_deed
from kitwright.errors import BadLog, KitError, NotProject
from kitwright.projects import Project
from kitwright.values import is_list, is_tuple_of


def log_of(project):
    """The log of the deeds of a project that stand."""
    if not isinstance(project, Project):
        raise NotProject("a Project is wanted")
    rest = project.copy()
    sets = []
    while len(rest) > 0:
        sets.append(rest.held)
        rest.undo()
    return list(zip(project.log, sets[::-1]))


def can_do(project, deed):
    """Does a deed of any form; whether the project did not refuse it."""
    try:
        do_deed(project, deed)
    except KitError:
        return False
    return True


def goes_on(project, value):
    """Does the deed of the next item of a log; whether any value is an item that is right there."""
    if not is_tuple_of(value, 2) or not is_deed(value[0]) or not can_do(project, value[0]):
        return False
    return is_set_of(project.registry, value[1]) and value[1] == project.held


def wrong_at(project, log):
    """Does the deeds of any value as a log; the index of the first item that is wrong, None if there is none."""
    if not is_list(log):
        return 0
    for at, item in enumerate(log):
        if not goes_on(project, item):
            return at
    return None


def first_wrong(registry, ranked, log):
    """The index of the first item of any value that is wrong in a log, None if there is none."""
    return wrong_at(Project(registry, ranked), log)


def replayed(registry, ranked, log):
    """The project behind a log."""
    project = Project(registry, ranked)
    at = wrong_at(project, log)
    if at is not None:
        raise BadLog(at)
    return project


def shortened(registry, ranked, log):
    """The log of what stands behind a log."""
    return log_of(replayed(registry, ranked, log))


def stands_like(one, other):
    """Whether two projects have the same registry, ranked, roots and held set."""
    return one.registry == other.registry and one.ranked == other.ranked and (
        one.roots == other.roots and one.held == other.held)


def crossed(registry, ranked, log, at):
    """Whether the deeds at an index and behind it can be exchanged, and lead to the same."""
    replayed(registry, ranked, log)
    check_index(at, len(log) - 1)
    one = replayed(registry, ranked, log[:at])
    other = one.copy()
    do_deed(one, log[at][0])
    do_deed(one, log[at + 1][0])
    return can_do(other, log[at + 1][0]) and can_do(other, log[at][0]) and stands_like(one, other)
