"""Promise [98]: a desk that is told a registry, does deeds, and answers questions, line by line."""

import random
import re
import unittest

from kitwright.desk import Desk
from kitwright.errors import KitError
from kitwright.projects import Project
from kitwright.quarrels import demands_of, quarrels
from kitwright.rangetexts import range_text, read_range, version_text
from kitwright.registries import Registry
from kitwright.sets import how_many
from tests.projectdraws import runs, some_deed
from tests.samples import ALL, EMPTY, HIGH, LOW, Case, any_values
from tests.test_projects import BEGUN, do

TOLD = ["kit app 1.0.0", "kit app 2.0.0", "kit lib 1.0.0", "kit lib 2.0.0", "kit own 1.0.0", "wants app 1.0.0 lib <2",
        "wants app 2.0.0 lib >=2"]
QUESTIONS = ["held", "roots", "stale", "best", "sets", "why app", "why lib", "why own", "quarrels app *", "quarrels lib <2",
             "quarrels zz *", "quarrels own none"]


def told(*lines):
    """A desk to which lines were said, all of which were answered `ok`."""
    desk = Desk()
    for line in lines:
        answer = desk.say(line)
        assert answer == "ok", (line, answer)
    return desk


def begun():
    """A desk with an open project, and the project alike."""
    return told(*TOLD, "open own app lib"), Project(Registry(BEGUN), ["own", "app", "lib"])


def lines_of(kits):
    """The lines that tell a registry."""
    found = [f"kit {kit} {version_text(version)}" for kit in kits for version in kits[kit]]
    for kit in kits:
        for version in kits[kit]:
            wants, bars, after = kits[kit][version]
            at = f"{kit} {version_text(version)}"
            found += [f"wants {at} {other} {range_text(ranged)}" for other, ranged in wants.items()]
            found += [f"bars {at} {other} {range_text(ranged)}" for other, ranged in bars.items()]
            found += [f"after {at} {other}" for other in after]
    return found


def line_of(deed):
    """The line that tells a deed."""
    word, *told = deed
    if word == "want":
        return f"want {told[0]} {range_text(told[1])}"
    if word in ("publish", "withdraw"):
        return f"{word} {told[0]} {version_text(told[1])}"
    if word == "step":
        return f"step {told[0]} {version_text(told[1]) if told[1] else '-'}"
    return " ".join([word, *told])


def listed(rows, sign=", "):
    """Rows with a sign between them."""
    return sign.join(rows) or "-"


def answer(project, line):
    """What a project answers to a question."""
    word, *told = line.split(" ")
    if word == "held":
        return listed([f"{kit} {version_text(version)}" for kit, version in sorted(project.held.items())])
    if word == "roots":
        return listed([f"{kit} {range_text(ranged)}" for kit, ranged in sorted(project.roots.items())])
    if word == "stale":
        return listed([f"{kit} {version_text(one)} {version_text(two)}" for kit, (one, two) in sorted(project.stale().items())])
    if word == "best":
        return "yes" if project.is_best() else "no"
    if word == "sets":
        return str(how_many(project.registry, project.roots))
    if word == "why":
        return listed(list(reversed(project.why(told[0]) or ())), " < ")
    ranged = {"*": ALL, "<2": LOW, ">=2": HIGH, "none": ALL - ALL}[told[1]]
    roots = sorted(project.roots)
    lots = quarrels(project.registry, demands_of(project.roots) + [("want", told[0], ranged)])
    return listed([" ".join(roots[at] for at in lot if at < len(roots)) or "alone" for lot in lots if len(roots) in lot], "; ")


def error_word(call, *args):
    """`ok`, or how a desk answers the error that a call raises."""
    try:
        call(*args)
    except KitError as caught:
        return "error " + type(caught).__name__.lower()
    return "ok"


class Told(Case):
    def test_registries(self):
        for rng, kits, ranked, _ in runs(611, 40, 1):
            desk, project = told(*lines_of(kits), "open " + " ".join(ranked)), Project(Registry(kits), ranked)
            for line in ["sets", "held", "roots", *[f"quarrels {kit} *" for kit in kits]]:
                self.same(desk.say(line), answer(project, line))
            for kit in kits:
                self.same(desk.say(f"want {kit} *"), error_word(project.want, kit, ALL))
                for line in ["held", "stale", "best", "sets", f"why {kit}"]:
                    self.same(desk.say(line), answer(project, line))

    def test_in_the_place_of_what_was_there(self):
        # A want of another range, and a version told again, whose manifest is empty then.
        desk = told("kit a 1.0.0", "kit b 1.0.0", "kit b 2.0.0", "wants a 1.0.0 b 1", "wants a 1.0.0 b 2", "open a b", "want a *")
        self.same(desk.say("held"), "a 1.0.0, b 2.0.0")
        desk = told("kit a 1.0.0", "kit b 1.0.0", "bars a 1.0.0 b *", "bars a 1.0.0 b none", "open a b", "want a *", "want b *")
        self.same(desk.say("held"), "a 1.0.0, b 1.0.0")
        desk = told("kit a 1.0.0", "wants a 1.0.0 zz *", "bars a 1.0.0 a *", "kit a 1.0.0", "open a", "want a *")
        self.same(desk.say("held"), "a 1.0.0")
        desk = told("kit a 1.0.0", "after a 1.0.0 b", "after a 1.0.0 b", "after a 1.0.0 a", "open a", "want a *")
        self.same(desk.say("held"), "a 1.0.0")
        # What manifests say of kits that come later.
        desk = told("kit a 1.0.0", "wants a 1.0.0 b *", "kit b 1.0.0", "open a b", "want a *")
        self.same(desk.say("held"), "a 1.0.0, b 1.0.0")

    def test_what_is_not_there(self):
        desk = told("kit a 1.0.0")
        for line in ["wants b 1.0.0 a *", "bars b 1.0.0 a *", "after b 1.0.0 a"]:
            self.same(desk.say(line), "error nokit")
        for line in ["wants a 2.0.0 a *", "bars a 2.0.0 a *", "after a 2.0.0 a"]:
            self.same(desk.say(line), "error noversion")
        self.same([desk.say(line) for line in ("open a", "want a *", "held")], ["ok", "ok", "a 1.0.0"])

    def test_registries_that_can_not_be(self):
        desk = Desk()
        self.same(desk.say("open a"), "error badregistry")
        self.same(desk.say("held"), "not now")
        for kit in "abcdef":
            self.same(desk.say(f"kit {kit} 1.0.0"), "ok")
        self.same(desk.say("open a b c d e f"), "error badregistry")
        desk = told(*[f"kit a {n}.0.0" for n in range(5)])
        self.same(desk.say("open a"), "error badregistry")
        for word, rest in (("wants", " none"), ("bars", " none"), ("after", "")):
            desk = told("kit a 1.0.0", *[f"{word} a 1.0.0 {kit}{rest}" for kit in "vwxyz"])
            self.same(desk.say("open a"), "error badregistry")
            # Lines can be told again behind it, and then it can be opened.
            self.same([desk.say(line) for line in ("held", "kit a 1.0.0", "open a", "held", "open a")], ["not now", "ok", "ok", "-", "not now"])
        desk = told(*[f"kit {kit} {n}.0.0" for kit in "abcd" for n in range(4)])
        self.same(desk.say("open a b c d"), "error toomany")
        self.same(desk.say("open a"), "error toomany")
        desk = told("kit a 1.0.0", "kit b 1.0.0")
        for line in ["open a", "open a b b", "open a a", "open a b c", "open c"]:
            self.same(desk.say(line), "error badranked")
            self.same(desk.say("held"), "not now")
        self.same(desk.say("kit c 1.0.0"), "ok")
        self.same(desk.say("open c b a"), "ok")

    def test_desks_are_apart(self):
        one, other = told("kit a 1.0.0"), Desk()
        self.same([other.say("open a"), one.say("open a"), other.say("held"), one.say("held")],
                  ["error badregistry", "ok", "not now", "-"])


class Deeds(Case):
    def test_deeds(self):
        seen = {}
        for rng, kits, ranked, model in runs(612, 40, 20):
            desk, project = told(*lines_of(kits), "open " + " ".join(ranked)), Project(Registry(kits), ranked)
            for _ in range(20):
                deed = some_deed(rng, model)
                if deed[0] == "publish":
                    deed = (*deed[:3], EMPTY)
                wanted = error_word(do, project, deed)
                if wanted == "ok":
                    model.do(deed)
                self.same(desk.say(line_of(deed)), wanted)
                seen[wanted] = seen.get(wanted, 0) + 1
                for line in ["held", "roots", "stale", "best", "sets"]:
                    self.same(desk.say(line), answer(project, line))
                for kit in project.registry.kits:
                    self.same(desk.say(f"why {kit}"), answer(project, f"why {kit}"))
                    for text in ("*", "<2", ">=2"):
                        self.same(desk.say(f"quarrels {kit} {text}"), answer(project, f"quarrels {kit} {text}"))
            # The first lines, `open` and the deeds that stand lead to the same answers.
            again = told(*lines_of(kits), "open " + " ".join(ranked), *[line_of(deed) for deed in project.log])
            for line in ["held", "roots", "stale", "best", "sets"] + [f"why {kit}" for kit in project.registry.kits]:
                self.same(again.say(line), desk.say(line))
        for word in ("ok", "error noinstall", "error noroot", "error taken", "error nokit", "error noversion", "error inuse",
                     "error badstate", "error notsound", "error nothingdone"):
            self.assertGreater(seen.get(word, 0), 3, (word, seen))

    def test_by_hand(self):
        desk, _ = begun()
        rows = [("held", "-"), ("roots", "-"), ("stale", "-"), ("best", "yes"), ("sets", "10"), ("why app", "-"), ("why zz", "error nokit"),
                ("want app *", "ok"), ("held", "app 2.0.0, lib 2.0.0"), ("why lib", "lib < app"), ("why app", "app"), ("why own", "-"),
                ("roots", "app *"), ("want own >=1 || 0.2 - 0.3", "ok"), ("roots", "app *, own >=0.2.0 <0.4.0 || >=1"), ("sets", "2"),
                ("quarrels lib <2", "-"), ("want app >1", "ok"), ("roots", "app >=2, own >=0.2.0 <0.4.0 || >=1"), ("quarrels lib <2", "app"),
                ("quarrels zz *", "alone"), ("quarrels lib 3", "alone"), ("want lib <2", "error noinstall"), ("step own -", "error notsound"),
                ("undo", "ok"), ("roots", "app *, own >=0.2.0 <0.4.0 || >=1"), ("publish lib 3.0.0", "ok"), ("best", "no"),
                ("stale", "lib 3.0.0 3.0.0"), ("publish app 3.0.0", "ok"), ("stale", "app 3.0.0 3.0.0, lib 3.0.0 3.0.0"), ("renew", "ok"),
                ("held", "app 3.0.0, own 1.0.0"), ("step lib 1.0.0", "ok"), ("best", "no"), ("step lib -", "ok"), ("step lib -", "error badstate"),
                ("step lib 9.0.0", "error badstate"), ("withdraw app 3.0.0", "error inuse"), ("withdraw app 1.0.0", "ok"),
                ("withdraw app 1.0.0", "error noversion"), ("withdraw zz 1.0.0", "error nokit"), ("publish app 2.0.0", "error taken"),
                ("drop lib", "error noroot"), ("drop app", "ok"), ("held", "own 1.0.0"), ("drop own", "ok"), ("held", "-"),
                ("want own none", "error noinstall"), ("publish a 1.0.0", "ok"), ("publish b 1.0.0", "ok"), ("publish c 1.0.0", "error toomany")]
        for line, wanted in rows:
            self.same(desk.say(line=line), wanted, line)

    def test_quarrels(self):
        desk = told("kit a 1.0.0", "kit b 1.0.0", "kit c 1.0.0", "kit c 2.0.0", "wants a 1.0.0 c 1", "wants b 1.0.0 c 1", "kit d 1.0.0",
                    "bars d 1.0.0 a *", "open a b c d", "want a *", "want b *")
        self.same(desk.say("quarrels c 2"), "a; b")
        self.same(desk.say("quarrels d *"), "a")
        self.same(desk.say("quarrels c 1"), "-")
        self.same(desk.say("quarrels c 3"), "alone")
        two = told("kit a 1.0.0", "kit b 1.0.0", "kit c 1.0.0", "kit c 2.0.0", "kit d 1.0.0", "bars d 1.0.0 c 1", "bars a 1.0.0 c 2",
                   "open a b c d", "want a *", "want c *")
        self.same(two.say("quarrels d *"), "a c")
        self.same(two.say("quarrels a *"), "-")


class Lines(Case):
    def test_not_now(self):
        ahead, behind = told(*TOLD), begun()[0]
        first = ["kit a 1.0.0", "wants app 1.0.0 lib *", "bars zz 1.0.0 lib *", "after app 9.0.0 lib", "open app lib own", "open zz"]
        later = ["publish a 1.0.0", "withdraw app 1.0.0", "want app *", "drop app", "renew", "step app 1.0.0", "step app -", "undo",
                 *QUESTIONS]
        for line in first:
            self.same(behind.say(line), "not now")
        for line in later:
            self.same(ahead.say(line), "not now")
            self.assertNotIn(behind.say(line), ["not now", "what"])

    def test_what(self):
        wrong = ["", " ", "hello", "kit", "kit app", "kit app 1.0", "kit app 1", "kit app 1.0.0 x", "kit App 1.0.0", "kit abcdefghi 1.0.0",
                 "kit  app 1.0.0", " kit app 1.0.0", "kit app 1.0.0 ", "kit app 01.0.0", "kit app 1.0.-1", "kit app 1.0.0.0", "kit app -",
                 "KIT app 1.0.0", "wants app 1.0.0 lib", "wants app 1.0.0 lib ", "wants app 1.0.0 lib >", "wants app 1.0.0 lib > 1",
                 "wants app 1.0 lib *", "wants app 1.0.0 Lib *", "wants app 1.0.0 *", "wants app lib *", "bars app 1.0.0 lib",
                 "bars app 1.0.0 lib none none", "after app 1.0.0", "after app 1.0.0 lib *", "after app lib", "open", "open ", "open app Lib",
                 "open app  lib", "open app,lib", "publish app", "publish app 1", "publish app 1.0.0 x", "publish app -", "withdraw app",
                 "withdraw app -", "want", "want app", "want app ", "want *", "want app 1 -", "want app * ||", "want app 1  2", "want A *",
                 "drop", "drop app lib", "drop APP", "renew app", "renew ", "step app", "step app --", "step app 1.0", "step - app",
                 "step app - -", "undo 1", "held app", "held ", "roots *", "why", "why app lib", "why 1", "stale app", "best yes",
                 "sets 1", "quarrels", "quarrels app", "quarrels app maybe", "quarrels *", "held\n", "held\nroots", "want app *\n", "~" * 4000,
                 "kit app 1.0.0\n", "kit\tapp\t1.0.0", "none", "*", "-", "ok", "what", "not now", "error nokit", "say", "answer"]
        for desk in (told(*TOLD), begun()[0]):
            before = [desk.say(line) for line in QUESTIONS]
            for value in wrong + any_values() + [["held"], ("held",), b"held", {"held": 1}, Desk(), 98]:
                self.same(desk.say(value), "what", value)
            self.same([desk.say(line) for line in QUESTIONS], before)

    def test_ranges_to_the_end_of_the_line(self):
        desk, project = begun()
        for text in ["*", "none", ">=1 <2", "1 - 2", "1 || 2", "^1 ~1.0 || >=2 <3 || 7.1.2", "=1.0.0", "<=9.9.9", "0 || 1 - 2 || >5"]:
            self.same(desk.say("want app " + text), error_word(project.want, "app", read_range(text)))
            self.same(desk.say("roots"), answer(project, "roots"))
            # An equal range is written alike.
            self.same(desk.say("quarrels app " + text)[:5], "alone" if text == "none" else "-")

    def test_refused_lines_change_nothing(self):
        rng = random.Random(613)
        desk, _ = begun()
        for line in ["want app *", "publish lib 3.0.0", "step own 1.0.0"]:
            self.same(desk.say(line), "ok")
        before = [desk.say(line) for line in QUESTIONS]
        lines = ["want zz *", "want app none", "drop lib", "publish lib 3.0.0", "withdraw app 2.0.0", "withdraw zz 1.0.0", "step app -",
                 "step app 2.0.0", "step zz 1.0.0", "why zz", "kit app 3.0.0", "open app", "want", "held held", None, "quarrels zz *"]
        for _ in range(5):
            rng.shuffle(lines)
            for line in lines:
                self.assertRegex(desk.say(line), "^(error [a-z]+|what|not now|alone)$")
                self.same([desk.say(question) for question in QUESTIONS], before)
        for line in ["undo", "undo", "undo"]:
            self.same(desk.say(line), "ok")
        self.same(desk.say("undo"), "error nothingdone")

    def test_answers(self):
        desk, _ = begun()
        for line in ["want app *", *QUESTIONS, "undo", "undo"]:
            self.assertIs(type(desk.say(line)), str)
        self.assertTrue(re.fullmatch(r"error [a-z]+", desk.say("undo")))
        self.same(Desk().say(line="held"), "not now")


if __name__ == "__main__":
    unittest.main()
