"""A desk to which lines are said: they tell a registry, do the deeds of a project, and ask."""

from kitwright.deeds import SIZES, do_deed
from kitwright.drafts import Draft
from kitwright.errors import BadText, KitError
from kitwright.lines import read_line
from kitwright.projects import Project
from kitwright.quarrels import demands_of, quarrels
from kitwright.rangetexts import range_text, version_text
from kitwright.sets import how_many

# The words of the lines that can be said only while no project is open.
DRAFTING = ("kit", "wants", "bars", "after", "open")


def listed(rows, sign):
    """Texts with a sign between them, a stroke if there are none."""
    return sign.join(rows) if rows else "-"


def put_told(draft, word, told):
    """Puts into a draft what a line tells."""
    if word == "kit":
        draft.put(told[0], told[1])
    elif word == "wants":
        draft.put_want(told[0], told[1], told[2], told[3])
    elif word == "bars":
        draft.put_bar(told[0], told[1], told[2], told[3])
    else:
        draft.put_hint(told[0], told[1], told[2])


def deed_told(word, told):
    """The deed that a line tells; what is published has an empty manifest."""
    return (word, *told, ({}, {}, ())) if word == "publish" else (word, *told)


def held_text(project):
    """The kits of the held set with their versions."""
    return listed([f"{kit} {version_text(version)}" for kit, version in project.held.items()], ", ")


def roots_text(project):
    """The roots with their ranges."""
    return listed([f"{kit} {range_text(ranged)}" for kit, ranged in project.roots.items()], ", ")


def stale_text(project):
    """The kits that are held in no latest version, with it and with the latest one that can be had."""
    rows = [f"{kit} {version_text(latest)} {version_text(had)}" for kit, (latest, had) in project.stale().items()]
    return listed(rows, ", ")


def why_text(project, kit):
    """Who wants a kit, and who wants that one, up to a root."""
    chain = project.why(kit)
    return listed([] if chain is None else list(chain[::-1]), " < ")


def quarrels_text(project, kit, ranged):
    """The kits of the roots with which a want quarrels."""
    roots = project.roots
    kits = list(roots)
    lots = quarrels(project.registry, demands_of(roots) + [("want", kit, ranged)])
    # The held set meets all roots, so each quarrel has the want, as its last index.
    rows = [[kits[index] for index in lot[:-1]] for lot in lots]
    return listed([" ".join(row) if row else "alone" for row in rows], "; ")


def asked(project, word, told):
    """The answer of a project to a question."""
    if word == "held":
        return held_text(project)
    if word == "roots":
        return roots_text(project)
    if word == "stale":
        return stale_text(project)
    if word == "why":
        return why_text(project, told[0])
    if word == "best":
        return "yes" if project.is_best() else "no"
    if word == "sets":
        return str(how_many(project.registry, project.roots))
    return quarrels_text(project, told[0], told[1])


class Desk:
    """A registry that grows by lines, and, behind the line that opens it, a project."""

    def __init__(self):
        self.draft = Draft()
        self.project = None

    def say(self, line):
        """The answer to any value as a line."""
        try:
            words = read_line(line)
        except BadText:
            return "what"
        if (words[0] in DRAFTING) != (self.project is None):
            return "not now"
        try:
            return self.answer(words[0], words[1:])
        except KitError as e:
            return "error " + e.__class__.__name__.lower()

    def answer(self, word, told):
        """The answer to a line that can be said now; what it can not do it refuses as the project does."""
        if word == "open":
            self.project = Project(self.draft.made(), told[0])
        elif word in DRAFTING:
            put_told(self.draft, word, told)
        elif word in SIZES:
            do_deed(self.project, deed_told(word, told))
        else:
            return asked(self.project, word, told)
        return "ok"
