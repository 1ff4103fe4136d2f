"""Layouts of folders, in which several versions of a kit stand side by side: who finds what, and what fits a web."""

from kitwright.errors import BadFit, BadLayout, BadPath, NoKit, TooMany
from kitwright.folders import (
    MOST_COPIES, MOST_PATH, first_misfit, fitting_rows, found_from, layout_of, rising_rows, rows_of)
from kitwright.ranges import is_kit
from kitwright.webforms import check_web


def is_layout(value):
    """Whether any value is a layout."""
    return rows_of(value) is not None


def checked_rows(layout):
    """The rows of a layout, behind what is none."""
    rows = rows_of(layout)
    if rows is None:
        raise BadLayout("a layout is wanted")
    return rows


def copies(layout):
    """The ascending list of the paths of all copies."""
    return list(checked_rows(layout))


def is_path_among(paths, value):
    """Whether any value is one of some paths, which are a list or the keys of a dict."""
    return isinstance(value, tuple) and all([is_kit(kit) for kit in value]) and value in paths


def finds(layout, path, kit):
    """The path of what a copy finds for a kit, None if it finds nothing."""
    rows = checked_rows(layout)
    if not is_path_among(rows, path):
        raise BadPath("a path of a copy is wanted")
    if not is_kit(kit):
        raise NoKit(kit)
    return found_from(rows, path, kit)


def misfit(web, layout):
    """The least pair (path, kit) at which a layout does not fit a web, None if it fits."""
    check_web(web)
    return first_misfit(web, checked_rows(layout))


def linked_nodes(links, nodes):
    """The ascending list of the nodes to which some nodes are linked."""
    return sorted(set([other for node in nodes for other in links[node].items()]))


def nested(web):
    """The layout whose copies have within just one copy of each linked node."""
    check_web(web)
    tops, links = web
    nodes = list(tops.items())
    for _ in range(MOST_PATH):
        nodes = linked_nodes(links, nodes)
    if nodes:
        raise TooMany(MOST_PATH)
    waiting = [((kit,), version) for kit, version in tops.items()]
    at = 0
    while at < len(waiting):
        path, version = waiting[at]
        promises = links[path[-1], version]
        waiting.extend([(path + (kit,), promises[kit]) for kit in promises])
        if len(waiting) > MOST_COPIES:
            raise TooMany(MOST_COPIES)
        at += 1
    return layout_of(rising_rows(dict(waiting)))


def fit_rows(web, layout):
    """The rows of a layout that fits a web, behind what is no web, no layout, and one that does not fit."""
    check_web(web)
    rows = checked_rows(layout)
    if first_misfit(web, rows) is not None:
        raise BadFit("a layout that fits the web is wanted")
    return rows


def lifts(web, layout):
    """The ascending list of the paths of the copies that can be lifted so that the layout fits again."""
    rows = fit_rows(web, layout)
    return [path for path in rows if fitting_rows(web, rows, path) is not None]


def lifted(web, layout, path):
    """The layout behind the lift of a copy."""
    rows = fit_rows(web, layout)
    found = fitting_rows(web, rows, path) if is_path_among(rows, path) else None
    if found is None:
        raise BadPath("a path of a copy that can be lifted is wanted")
    return layout_of(found)


def first_lifted(web, rows):
    """The rows behind the first lift, None if there is none."""
    for path in rows:
        found = fitting_rows(web, rows, path)
        if found is not None:
            return found
    return None


def settled(web, layout):
    """What comes of a layout by the first lift again and again, till there is none."""
    rows = fit_rows(web, layout)
    later = first_lifted(web, rows)
    while later is not None:
        rows = later
        later = first_lifted(web, rows)
    return layout_of(rows)
