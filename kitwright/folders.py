"""Layouts told by rows: dicts from the paths of all copies, ascending, to their versions."""

from kitwright.ranges import is_kit, is_version
from kitwright.values import is_tuple_of

MOST_COPIES = 200
MOST_PATH = 6


def is_folder(value):
    """Whether any value is a dict from kits to pairs of a version and what is within, whatever that is."""
    return isinstance(value, dict) and all(
        [is_kit(kit) and is_tuple_of(pair, 2) and is_version(pair[0]) for kit, pair in value.items()])


def rising_rows(rows):
    """The rows with ascending paths."""
    return {path: rows[path] for path in sorted(rows)}


def rows_of(value):
    """The rows of a layout, None for any value that is none."""
    rows = {}
    waiting = [((), value)]
    at = 0
    while at < len(waiting):
        path, folder = waiting[at]
        if not is_folder(folder) or len(rows) + len(folder) > MOST_COPIES:
            return None
        if folder and len(path) == MOST_PATH:
            return None
        for kit, (version, within) in folder.items():
            rows[path + (kit,)] = version
            waiting.append((path + (kit,), within))
        at += 1
    return rising_rows(rows)


def layout_of(rows):
    """The layout with some rows."""
    folders = {(): {}}
    for path, version in rows.items():
        folders[path] = {}
        folders[path[:-1]][path[-1]] = (version, folders[path])
    return folders[()]


def found_from(rows, path, kit):
    """The path of what a copy finds for a kit, None if it finds nothing."""
    for many in range(len(path), -1, -1):
        if path[:many] + (kit,) in rows:
            return path[:many] + (kit,)
    return None


def missed_kit(rows, path, promises):
    """The least kit for which a copy does not find the version that it is promised, None if there is none."""
    for kit in sorted(promises):
        if rows.get(found_from(rows, path, kit)) != promises[kit]:
            return kit
    return None


def first_misfit(web, rows):
    """The least misfit of a layout, None if it fits a web."""
    tops, links = web
    for kit in sorted(tops):
        if rows.get((kit,)) != tops[kit]:
            return (), kit
    for path, version in rows.items():
        node = (path[-1], version)
        if node not in links:
            return path, None
        kit = missed_kit(rows, path, links[node])
        if kit is not None:
            return path, kit
    return None


def rows_within(rows, path):
    """The rows of a copy and of all within it, told by what stands behind its path."""
    many = len(path)
    return {other[many:]: version for other, version in rows.items() if other[:many] == path}


def lifted_rows(rows, path):
    """The rows with a copy, and all within it, one folder further out; None where another one stands in its way."""
    goal = path[:-2] + path[-1:]
    moved = rows_within(rows, path)
    if goal in rows and rows_within(rows, goal) != moved:
        return None
    found = {other: version for other, version in rows.items() if other[:len(path)] != path}
    for rest, version in moved.items():
        found[goal + rest] = version
    return rising_rows(found)


def fitting_rows(web, rows, path):
    """The rows with a copy lifted, None if it can not be, or if the layout would not fit again."""
    if len(path) < 2:
        return None
    found = lifted_rows(rows, path)
    return found if found is not None and first_misfit(web, found) is None else None
