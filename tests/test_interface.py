"""The interface: modules in their order, names, parameters; and promises [3], [4], [5] and [9] for all parameters."""

import ast
import importlib
import inspect
import pathlib
import unittest

import kitwright
import kitwright.errors
from kitwright.desk import Desk
from kitwright.errors import NotRange
from kitwright.locks import Lock
from kitwright.projects import Project
from kitwright.ranges import Range, is_kit
from kitwright.registries import Registry
from tests.samples import ALL, APP, EMPTY, HIGH, LOW, V1, V2, Case, any_values, kits_dict, strict

ROOT = pathlib.Path(__file__).resolve().parent.parent
MODULES = ["errors", "ranges", "rangetexts", "registries", "sets", "clauses", "refuting", "best", "quarrels", "rulings",
           "floors", "raising", "ways", "touching", "prices", "loading", "staying", "webs", "layouts", "shelves", "locks",
           "pinning", "merging", "toldback", "trying", "projects", "projectlogs", "desk"]

# Each parameter with the error that any wrong value in its place raises; none behind a name: any value may stand there.
SPEC = """
ranges is_kit value
ranges is_version value
ranges next_version version:BadVersion
ranges is_within one:NotRange other:NotRange
ranges first_in ranged:NotRange version:BadVersion
ranges first_unlike one:NotRange other:NotRange
ranges last_in ranged:NotRange
ranges parting inside:BadVersions outside:BadVersions
ranges widest_parting inside:BadVersions outside:BadVersions
ranges alternation inside:BadVersions outside:BadVersions
ranges is_alternation inside:BadVersions outside:BadVersions value
rangetexts read_range text:BadText
rangetexts range_text ranged:NotRange
rangetexts terms_needed ranged:NotRange
rangetexts version_text version:BadVersion
rangetexts read_version text:BadText
registries is_manifest value
registries renamed registry:NotRegistry names:BadNames
registries together one:NotRegistry other:NotRegistry
sets states_of registry:NotRegistry kit:NoKit
sets is_set registry:NotRegistry value
sets line_of registry:NotRegistry chosen:BadSet
sets set_of registry:NotRegistry line:BadLine
sets faults registry:NotRegistry roots:BadRoots chosen:BadSet
sets is_sound registry:NotRegistry roots:BadRoots chosen:BadSet
sets reached registry:NotRegistry roots:BadRoots chosen:BadSet
sets chain_to registry:NotRegistry roots:BadRoots chosen:BadSet kit:NoKit
sets is_chain registry:NotRegistry roots:BadRoots chosen:BadSet value
sets trimmed registry:NotRegistry roots:BadRoots chosen:BadSet
sets sound_sets registry:NotRegistry roots:BadRoots
sets installs registry:NotRegistry roots:BadRoots
sets how_many registry:NotRegistry roots:BadRoots
sets set_at registry:NotRegistry roots:BadRoots number:BadNumber
sets number_of registry:NotRegistry roots:BadRoots chosen:BadSet
sets tally registry:NotRegistry roots:BadRoots
sets closed_sets registry:NotRegistry
sets same_sets one:NotRegistry other:NotRegistry
sets parting_set one:NotRegistry other:NotRegistry
sets dead_versions registry:NotRegistry
sets beside registry:NotRegistry kit:NoKit version:NoVersion
sets dead_paper registry:NotRegistry kit:NoKit version:NoVersion
sets is_dead_paper registry:NotRegistry kit:NoKit version:NoVersion value
sets without_entry registry:NotRegistry entry:NoEntry
sets needless_entries registry:NotRegistry
sets spare_lots registry:NotRegistry
sets gained registry:NotRegistry roots:BadRoots kit:BadKit version:BadVersion manifest:BadManifest
sets lost registry:NotRegistry roots:BadRoots kit:NoKit version:NoVersion
clauses is_clause registry:NotRegistry value
clauses keeps registry:NotRegistry chosen:BadSet clause:BadClause
clauses covers registry:NotRegistry one:BadClause other:BadClause
clauses given_clauses registry:NotRegistry roots:BadRoots
clauses joined registry:NotRegistry one:BadClause other:BadClause kit:NoKit
refuting row_clauses registry:NotRegistry clauses:BadClauses value:BadRows
refuting derivation registry:NotRegistry clauses:BadClauses clause:BadClause
refuting is_derivation registry:NotRegistry clauses:BadClauses clause:BadClause value
refuting refutation registry:NotRegistry clauses:BadClauses
refuting is_refutation registry:NotRegistry clauses:BadClauses value
refuting stray registry:NotRegistry clauses:BadClauses clause:BadClause
refuting strongest registry:NotRegistry clauses:BadClauses
refuting needless registry:NotRegistry clauses:BadClauses
best is_better registry:NotRegistry ranked:BadRanked one:BadSet other:BadSet
best best_install registry:NotRegistry roots:BadRoots ranked:BadRanked
best sound_at registry:NotRegistry roots:BadRoots ranked:BadRanked number:BadNumber
best count_better registry:NotRegistry roots:BadRoots ranked:BadRanked chosen:BadSet
best mark registry:NotRegistry ranked:BadRanked chosen:BadSet kit:NoKit
best best_paper registry:NotRegistry roots:BadRoots ranked:BadRanked
best is_best_paper registry:NotRegistry roots:BadRoots ranked:BadRanked value
best fates registry:NotRegistry roots:BadRoots
best is_fates registry:NotRegistry roots:BadRoots value
best sure_states registry:NotRegistry roots:BadRoots
best beats registry:NotRegistry roots:BadRoots chosen:BadSet
best unbeaten registry:NotRegistry roots:BadRoots
best best_for registry:NotRegistry roots:BadRoots
quarrels met_by registry:NotRegistry demands:BadDemands chosen:BadSet
quarrels demand_clauses registry:NotRegistry demands:BadDemands
quarrels demands_of roots:BadRoots
quarrels quarrels registry:NotRegistry demands:BadDemands
quarrels gifts registry:NotRegistry demands:BadDemands
quarrels meeting_lots lots:BadLots many:BadNumber
rulings ruling registry:NotRegistry demands:BadDemands
rulings is_ruling registry:NotRegistry demands:BadDemands value
rulings left_states registry:NotRegistry demands:BadDemands kit:NoKit
rulings stand_ins registry:NotRegistry demands:BadDemands index:BadNumber
rulings cheapest_gifts registry:NotRegistry demands:BadDemands prices:BadPrices
floors is_floors registry:NotRegistry roots:BadRoots
floors first_pair registry:NotRegistry kit:NoKit ranged:NotRange
floors met registry:NotRegistry roots:BadRoots
floors lacks registry:NotRegistry roots:BadRoots
floors floor_list registry:NotRegistry roots:BadRoots
floors pair_chain registry:NotRegistry roots:BadRoots kit:NoKit version:NoVersion
floors is_pair_chain registry:NotRegistry roots:BadRoots value
floors is_closed registry:NotRegistry roots:BadRoots value
raising rises registry:NotRegistry
raising falls registry:NotRegistry
raising lower registry:NotRegistry roots:BadRoots
raising least_paper registry:NotRegistry roots:BadRoots
raising is_least_paper registry:NotRegistry roots:BadRoots value
raising raised registry:NotRegistry roots:BadRoots kit:NoKit
raising last_list registry:NotRegistry roots:BadRoots
raising bounded registry:NotRegistry bounds:BadBounds
raising lowered registry:NotRegistry roots:BadRoots bounds:BadBounds
raising bar_chain registry:NotRegistry bounds:BadBounds kit:NoKit version:NoVersion
ways steps_at registry:NotRegistry roots:BadRoots chosen:BadSet
ways stepped registry:NotRegistry roots:BadRoots chosen:BadSet step:BadStep
ways passed registry:NotRegistry roots:BadRoots one:BadSet way:BadWay
ways is_way registry:NotRegistry roots:BadRoots one:BadSet other:BadSet value
ways far registry:NotRegistry roots:BadRoots one:BadSet other:BadSet
ways first_way registry:NotRegistry roots:BadRoots one:BadSet other:BadSet
ways ways_count registry:NotRegistry roots:BadRoots one:BadSet other:BadSet
ways way_at registry:NotRegistry roots:BadRoots one:BadSet other:BadSet number:BadNumber
ways heights_to registry:NotRegistry roots:BadRoots other:BadSet
ways are_heights registry:NotRegistry roots:BadRoots other:BadSet value
ways isles registry:NotRegistry roots:BadRoots
ways is_shut registry:NotRegistry roots:BadRoots value
ways isle_paper registry:NotRegistry roots:BadRoots one:BadSet other:BadSet
ways is_isle_paper registry:NotRegistry roots:BadRoots one:BadSet other:BadSet value
touching way_within registry:NotRegistry roots:BadRoots one:BadSet other:BadSet lot:BadLot
touching doing_lots registry:NotRegistry roots:BadRoots one:BadSet other:BadSet
touching barring_lots registry:NotRegistry roots:BadRoots one:BadSet other:BadSet
touching stillness registry:NotRegistry roots:BadRoots one:BadSet other:BadSet lot:BadLot
touching is_stillness registry:NotRegistry roots:BadRoots one:BadSet other:BadSet lot:BadLot value
touching narrows registry:NotRegistry roots:BadRoots one:BadSet other:BadSet
touching way_round registry:NotRegistry roots:BadRoots one:BadSet other:BadSet chosen:BadSet
touching ways_apart registry:NotRegistry roots:BadRoots one:BadSet other:BadSet
prices way_price registry:NotRegistry roots:BadRoots prices:BadPrices one:BadSet way:BadWay
prices cheapest_way registry:NotRegistry roots:BadRoots prices:BadPrices one:BadSet other:BadSet
prices price_heights registry:NotRegistry roots:BadRoots prices:BadPrices other:BadSet
prices are_price_heights registry:NotRegistry roots:BadRoots prices:BadPrices other:BadSet value
prices crossing registry:NotRegistry roots:BadRoots later:BadRoots prices:BadPrices one:BadSet other:BadSet
prices least_room registry:NotRegistry roots:BadRoots sizes:BadSizes one:BadSet other:BadSet
prices room_paper registry:NotRegistry roots:BadRoots sizes:BadSizes one:BadSet other:BadSet
prices is_room_paper registry:NotRegistry roots:BadRoots sizes:BadSizes one:BadSet other:BadSet room:BadNumber value
loading groups registry:NotRegistry chosen:BadSet
loading group_paper registry:NotRegistry chosen:BadSet one:NoKit other:NoKit
loading is_group_paper registry:NotRegistry chosen:BadSet one:NoKit other:NoKit value
loading hints registry:NotRegistry chosen:BadSet
loading heeded registry:NotRegistry chosen:BadSet
loading against registry:NotRegistry chosen:BadSet hint:BadHint
loading is_against registry:NotRegistry chosen:BadSet hint:BadHint value
loading is_order registry:NotRegistry chosen:BadSet value
loading order_count registry:NotRegistry chosen:BadSet
loading order_at registry:NotRegistry chosen:BadSet index:BadNumber
loading rule_order registry:NotRegistry chosen:BadSet
loading ahead_paper registry:NotRegistry chosen:BadSet one:NoKit other:NoKit
loading is_ahead_paper registry:NotRegistry chosen:BadSet one:NoKit other:NoKit value
loading swapped registry:NotRegistry chosen:BadSet order:BadOrder swap:BadSwap
loading swaps registry:NotRegistry chosen:BadSet order:BadOrder goal:BadOrder
staying staying registry:NotRegistry first:BadSet second:BadSet
staying staying_paper registry:NotRegistry first:BadSet second:BadSet
staying is_staying_paper registry:NotRegistry first:BadSet second:BadSet value
staying ahead_word registry:NotRegistry roots:BadRoots one:NoKit other:NoKit
staying word_paper registry:NotRegistry roots:BadRoots one:NoKit other:NoKit
staying is_word_paper registry:NotRegistry roots:BadRoots one:NoKit other:NoKit value
staying always_ahead registry:NotRegistry roots:BadRoots
webs is_web registry:NotRegistry roots:BadRoots value
webs heights registry:NotRegistry
webs web_for registry:NotRegistry roots:BadRoots
webs stuck registry:NotRegistry roots:BadRoots
webs is_stuck registry:NotRegistry roots:BadRoots value
webs fewest_nodes registry:NotRegistry roots:BadRoots
webs is_lean registry:NotRegistry roots:BadRoots value
webs web_of registry:NotRegistry roots:BadRoots chosen:BadSet
layouts is_layout value
layouts copies layout:BadLayout
layouts finds layout:BadLayout path:BadPath kit:NoKit
layouts misfit web:BadWeb layout:BadLayout
layouts nested web:BadWeb
layouts lifts web:BadWeb layout:BadLayout
layouts lifted web:BadWeb layout:BadLayout path:BadPath
layouts settled web:BadWeb layout:BadLayout
shelves is_top web:BadWeb value
shelves quarrel web:BadWeb top:BadTop
shelves is_quarrel web:BadWeb top:BadTop value
shelves shelf web:BadWeb top:BadTop kit:NoKit
shelves shelved web:BadWeb top:BadTop
shelves tops web:BadWeb
shelves fewest_copies web:BadWeb
shelves copies_paper web:BadWeb
shelves is_copies_paper web:BadWeb value
locks lock_of registry:NotRegistry roots:BadRoots chosen:BadSet
locks lock_faults lock:NotLock
locks wanted_by lock:NotLock
locks leaves_with lock:NotLock lot:BadLot
locks lost_pins registry:NotRegistry lock:NotLock
pinning is_enough registry:NotRegistry roots:BadRoots pinned:BadPins lot:BadLot
pinning holds_of registry:NotRegistry roots:BadRoots pinned:BadPins
pinning least_frees registry:NotRegistry roots:BadRoots pinned:BadPins
pinning free_paper registry:NotRegistry roots:BadRoots pinned:BadPins lot:BadLot
pinning is_free_paper registry:NotRegistry roots:BadRoots pinned:BadPins lot:BadLot value
pinning nearest_cost registry:NotRegistry roots:BadRoots pinned:BadPins weights:BadWeights
pinning nearest_sets registry:NotRegistry roots:BadRoots pinned:BadPins weights:BadWeights
pinning far_paper registry:NotRegistry roots:BadRoots pinned:BadPins weights:BadWeights most:BadNumber
pinning is_far_paper registry:NotRegistry roots:BadRoots pinned:BadPins weights:BadWeights most:BadNumber value
pinning freed_always registry:NotRegistry roots:BadRoots pinned:BadPins weights:BadWeights
pinning kept_always registry:NotRegistry roots:BadRoots pinned:BadPins weights:BadWeights
merging merged_range base:NotRange left:NotRange right:NotRange
merging merged_roots base:BadRoots left:BadRoots right:BadRoots
merging merged_pins base:BadPins left:BadPins right:BadPins
merging merge_locks registry:NotRegistry base:NotLock left:NotLock right:NotLock ranked:BadRanked
toldback is_culprit registry:NotRegistry value
toldback culprits_in registry:NotRegistry chosen:BadSet
toldback open_culprits registry:NotRegistry trials:BadTrials
toldback fails_by registry:NotRegistry theory:BadTheory chosen:BadSet
toldback is_fitting registry:NotRegistry trials:BadTrials value
toldback contradiction registry:NotRegistry trials:BadTrials
toldback is_contradiction registry:NotRegistry trials:BadTrials value
toldback verdict registry:NotRegistry trials:BadTrials chosen:BadSet
toldback is_verdict registry:NotRegistry trials:BadTrials chosen:BadSet value
toldback sure_culprits registry:NotRegistry trials:BadTrials
toldback wary_clauses registry:NotRegistry trials:BadTrials
toldback hopeful_clauses registry:NotRegistry trials:BadTrials
toldback safest registry:NotRegistry roots:BadRoots trials:BadTrials ranked:BadRanked
toldback boldest registry:NotRegistry roots:BadRoots trials:BadTrials ranked:BadRanked
toldback few_culprits registry:NotRegistry trials:BadTrials many:BadNumber taken:BadCulprits barred:BadCulprits
toldback is_hunt registry:NotRegistry trials:BadTrials many:BadNumber taken:BadCulprits barred:BadCulprits value
toldback fewest registry:NotRegistry trials:BadTrials
toldback told_within registry:NotRegistry trials:BadTrials chosen:BadSet many:BadNumber
toldback least_theories registry:NotRegistry trials:BadTrials
toldback is_needless registry:NotRegistry trials:BadTrials at:BadIndex
trying suspects registry:NotRegistry trials:BadTrials
trying plan_for registry:NotRegistry roots:BadRoots trials:BadTrials
trying is_plan_for registry:NotRegistry roots:BadRoots trials:BadTrials value
trying tries registry:NotRegistry roots:BadRoots trials:BadTrials
trying floor_for registry:NotRegistry roots:BadRoots trials:BadTrials
trying is_floor registry:NotRegistry roots:BadRoots trials:BadTrials value
trying would_tell registry:NotRegistry trials:BadTrials chosen:BadSet worked:BadWorked
trying worth_trying registry:NotRegistry roots:BadRoots trials:BadTrials
projectlogs log_of project:NotProject
projectlogs first_wrong registry:NotRegistry ranked:BadRanked log
projectlogs replayed registry:NotRegistry ranked:BadRanked log:BadLog
projectlogs shortened registry:NotRegistry ranked:BadRanked log:BadLog
projectlogs crossed registry:NotRegistry ranked:BadRanked log:BadLog at:BadNumber
"""
# Where the errors do not come from left to right.
TURNED = {"meeting_lots": ["many", "lots"]}
FLOORS = {"app": {V1: ({"lib": ALL}, {}, ()), V2: ({"lib": HIGH}, {}, ("lib",))}, "lib": {V1: EMPTY, V2: EMPTY}}
ROUND = {"app": {V1: ({"lib": LOW}, {}, ("lib",)), V2: ({"lib": HIGH}, {}, ())}, "lib": {V1: ({"app": LOW}, {}, ()), V2: EMPTY}}
METHODS = {"Range": {"stretches", "__contains__", "__and__", "__or__", "__sub__", "__invert__", "__eq__"},
           "Registry": {"kits", "named", "versions", "manifest", "published", "withdrawn", "__eq__"},
           "Lock": {"roots", "pins", "chosen", "__eq__"}, "Desk": {"say"},
           "Project": {"registry", "roots", "ranked", "held", "log", "__len__", "want", "drop", "publish", "withdraw",
                       "renew", "step", "undo", "is_best", "stale", "why", "without", "tried", "copy", "__enter__",
                       "__exit__", "__eq__"}}
CLASSES = {"Range": Range, "Registry": Registry, "Lock": Lock, "Project": Project, "Desk": Desk}
HOMES = {"Range": "ranges", "Registry": "registries", "Lock": "locks", "Project": "projects", "Desk": "desk"}
# What methods and classes take, besides the object itself.
TAKEN = [(Range, ["stretches"]), (Registry, ["kits"]), (Registry.versions, ["kit"]), (Registry.manifest, ["kit", "version"]),
         (Registry.published, ["kit", "version", "manifest"]), (Registry.withdrawn, ["kit", "version"]),
         (Lock, ["roots", "pins"]), (Project, ["registry", "ranked"]), (Project.want, ["kit", "ranged"]),
         (Project.drop, ["kit"]), (Project.publish, ["kit", "version", "manifest"]), (Project.withdraw, ["kit", "version"]),
         (Project.renew, []), (Project.step, ["kit", "state"]), (Project.undo, []), (Project.is_best, []),
         (Project.stale, []), (Project.why, ["kit"]), (Project.without, ["kit"]), (Project.tried, ["work"]),
         (Project.copy, []), (Desk, []), (Desk.say, ["line"])]
# A web with its layout, and a lock with its pins, for the registries of good_values.
WEB = ({"app": V1}, {("app", V1): {"lib": V1}, ("lib", V1): {}})
LOCK = ({"app": LOW}, {"app": (V1, ({"lib": LOW}, {}, ())), "lib": (V1, EMPTY)})
TRIALS = [({"lib": V2}, True), ({"app": V1, "lib": V1}, False)]
LOG = [(("want", "app", LOW), {"app": V1, "lib": V1}), (("renew",), {"app": V1, "lib": V1}), (("undo",), {"app": V1, "lib": V1})]


# The errors that any value raises that is not of a kind.
KINDS = {"NotRegistry": Registry, "NotRange": Range, "NotLock": Lock, "NotProject": Project}


def rows():
    """For each line of SPEC: the module, the function, and the dict from its parameters to their errors or None."""
    for line in SPEC.strip().split("\n"):
        module, name, *told = line.split(" ")
        pairs = [(word + ":").split(":")[:2] for word in told]
        errors = {word: getattr(kitwright.errors, error) if error else None for word, error in pairs}
        yield module, getattr(importlib.import_module("kitwright." + module), name), errors


def good_values(function):
    """Right values for all parameters, new ones at each call."""
    ahead = (("app", (V1,)), ("lib", (V1, V2)))
    found = {
        "registry": Registry(APP), "roots": {"app": LOW}, "chosen": {"lib": V1, "app": V1}, "kit": "app", "version": V1,
        "ranked": ["lib", "app"], "clause": ahead, "clauses": [ahead, (("lib", ((),)),)], "value": None, "number": 0,
        "line": (V1, ()), "entry": ("lib", V2, "clash", "app"), "manifest": ({"lib": LOW}, {}, ("lib",)), "many": 3,
        "lots": [(0, 1), (1, 2)], "demands": [("want", "app", LOW), ("bar", "lib", LOW)], "text": "1.2.3",
        "names": {"app": "x", "lib": "y"}, "inside": [V1], "outside": [V2], "ranged": LOW, "one": LOW, "other": ALL}
    found.update({
        "index": 0, "prices": {"app": (1, 2, 3), "lib": (0, 0, 1000)}, "sizes": dict.fromkeys(("app", "lib"), {V1: 1, V2: 5}),
        "bounds": {"lib": V1}, "step": ("lib", V2), "way": [("app", ()), ("lib", V2)], "lot": ("app", "lib"), "room": 6,
        "later": {"lib": HIGH}, "hint": ("lib", "app"), "order": ("lib", "app"), "goal": ("app", "lib"), "swap": ("kits", 0),
        "first": {"app": V1, "lib": V1}, "second": {"app": V2, "lib": V1}})
    module = function.__module__.split(".")[1]
    if module == "rulings":
        found["prices"] = [3, 0]
    if module in ("floors", "raising"):
        found.update({"registry": Registry(FLOORS), "roots": {"app": ALL}, "ranged": HIGH})
    if module in ("ways", "touching", "prices"):
        found.update({"roots": {"lib": ALL}, "one": {"app": V1, "lib": V1}, "other": {"lib": V2}, "chosen": {"lib": V1}})
    found.update({
        "web": WEB, "layout": {"app": (V1, {"lib": (V1, {})})}, "path": ("app", "lib"), "top": {"app": V1},
        "lock": Lock(*LOCK), "pinned": {"app": V1, "lib": V2}, "weights": {"app": 3, "lib": 1}, "most": 2, "base": Lock(*LOCK),
        "left": Lock(*LOCK), "right": Lock(*LOCK), "trials": TRIALS, "theory": ((("app", V1),),), "taken": [(("app", V1),)],
        "barred": [(("lib", V1),)], "at": 0, "worked": True, "project": Project(Registry(APP), ["lib", "app"]), "log": LOG})
    if module == "locks":
        found["lot"] = ("app",)
    if module == "layouts":
        found["kit"] = "lib"
    if function.__name__ == "lock_of":
        found["chosen"] = {"app": V1, "lib": V1}
    if function.__name__ == "merged_range":
        found.update({"base": LOW, "left": ALL, "right": HIGH})
    if function.__name__ == "merged_roots":
        found.update({"base": {"app": LOW}, "left": {"app": ALL, "lib": LOW}, "right": {}})
    if function.__name__ == "merged_pins":
        found.update({"base": {"app": V1}, "left": {"app": V2, "lib": V1}, "right": {"app": (), "zz": V1}})
    if module in ("loading", "staying"):
        found.update({"registry": Registry(ROUND), "roots": {"app": ALL}, "one": "app", "other": "lib"})
    if function.__name__ in ("swapped", "swaps"):
        found["chosen"] = {"app": V2, "lib": V1}
    if function.__name__ == "web_of":
        found["chosen"] = {"app": V1, "lib": V1}
    if function.__name__ in ("together", "same_sets", "parting_set"):
        found.update({"one": Registry(APP), "other": Registry(APP)})
    if function.__name__ == "together":
        found["other"] = Registry({"new": {V1: EMPTY}})
    if function.__name__ in ("covers", "joined"):
        found.update({"one": ahead, "other": (("app", (V1, V2)),)})
    if function.__name__ == "is_better":
        found.update({"one": {"lib": V1}, "other": {"lib": V2}})
    if function.__name__ == "gained":
        found["version"] = (9, 0, 0)
    if function.__name__ == "row_clauses":
        found["value"] = [("given", 0), ("given", 1), ("joined", 0, 1, "lib")]
    return {name: found[name] for name in inspect.signature(function).parameters}


def is_right(error, value, function):
    """Whether a value of any_values is right in the place of a parameter with this error, in good_values."""
    name, told = error.__name__, repr(value)
    if function.__name__ in ("first_pair", "is_room_paper", "finds") and name in ("NotRange", "BadNumber", "NoKit"):
        kinds = {"NotRange": (), "NoKit": is_kit(value), "BadNumber": isinstance(value, int) and not isinstance(value, bool)}
        return bool(kinds[name])
    if name in KINDS:
        return isinstance(value, KINDS[name])
    if name == "BadRoots":
        return isinstance(value, dict) and all(is_kit(kit) and isinstance(one, Range) for kit, one in value.items())
    if name in ("BadVersion", "NoVersion"):
        return told == "(1, 0, 0)"
    if name == "BadKit":
        return is_kit(value)
    if name == "BadVersions":
        return isinstance(value, (list, tuple)) and all(repr(one) == "(1, 0, 0)" or one == V2 for one in value)
    if name in ("BadClauses", "BadLots"):
        return isinstance(value, (list, tuple)) and all(isinstance(one, tuple) and one in ((), (0,)) for one in value)
    return told in {
        "BadText": ["'1.2.3'", "'none'", "'*'"], "BadSet": ["{}"], "BadClause": ["()"], "BadDemands": ["[]", "()"],
        "BadNumber": ["0", "1", "3", str(10 ** 99)], "BadLine": ["((), ())", "((1, 0, 0), (2, 0, 0))"],
        "BadTrials": ["[]", "()"], "BadCulprits": ["[]", "()"], "BadLog": ["[]", "()"], "BadTheory": ["()"],
        "BadPins": ["{}", "{'zz': (1, 0, 0)}"] if function.__name__ == "merged_pins" else ["{}"], "BadLayout": ["{}"],
        "BadIndex": ["0", "1"], "BadWorked": ["True", "False"], "BadWay": ["[]", "()"], "BadLot": ["()"], "BadBounds": ["{}"], "BadPrices": ["(1, 0)"]}.get(name, [])


def turned(value):
    """A value in which the keys of all dicts stand the other way about."""
    if isinstance(value, dict):
        return {key: turned(value[key]) for key in reversed(value)}
    if type(value) in (list, tuple):
        return type(value)(turned(item) for item in value)
    return value


class Interface(Case):
    def test_modules(self):
        defined = [node for node in ast.parse(inspect.getsource(kitwright)).body
                   if not (isinstance(node, ast.Expr) and isinstance(node.value, ast.Constant))]
        self.assertEqual(defined, [])
        for name in MODULES:
            importlib.import_module("kitwright." + name)

    def test_order_of_imports(self):
        for place, name in enumerate(MODULES):
            seen, waiting = set(), [name]
            while waiting:
                module = waiting.pop()
                tree = ast.parse((ROOT / "kitwright" / (module + ".py")).read_text())
                for node in ast.walk(tree):
                    if isinstance(node, ast.ImportFrom) and node.module.startswith("kitwright."):
                        other = node.module.split(".")[1]
                        if other not in seen:
                            seen.add(other)
                            waiting.append(other)
            self.assertTrue(seen & set(MODULES) <= set(MODULES[:place]), (name, seen))

    def test_functions(self):
        for module, function, errors in rows():
            self.assertEqual(function.__module__, "kitwright." + module)
            self.assertTrue(inspect.isfunction(function))
            parameters = inspect.signature(function).parameters.values()
            self.assertEqual([one.name for one in parameters], list(errors), function)
            self.assertTrue(all(one.kind == one.POSITIONAL_OR_KEYWORD and one.default is one.empty
                                for one in parameters))

    def test_classes(self):
        for owner, names in METHODS.items():
            self.assertLessEqual(names, set(vars(CLASSES[owner])), owner)
            self.assertEqual(CLASSES[owner].__module__, "kitwright." + HOMES[owner])
        for call, told in TAKEN:
            ahead = [] if isinstance(call, type) else ["self"]
            self.assertEqual(list(inspect.signature(call).parameters), ahead + told, call)
        self.assertEqual(inspect.signature(Range).parameters["stretches"].default, ())

    def test_objects_are_equal_to_no_other_kind_and_not_iterated_over(self):
        made = [LOW, Registry(APP), Lock({}, {}), Project(Registry(APP), ["app", "lib"]), Desk()]
        for place, one in enumerate(made):
            self.assertRaises(TypeError, iter, one)
            for value in any_values() + made[:place] + made[place + 1:]:
                if type(value) is not type(one):
                    self.assertFalse(one == value or value == one or not one != value, (one, value))


class AllParameters(Case):
    def test_right_values(self):
        for _, function, _ in rows():
            good = good_values(function)
            before = strict(good)
            by_name, by_place = function(**good), function(*good.values())
            self.assertEqual(strict(by_name), strict(by_place), function)
            self.assertEqual(strict(good), before)
            self.answers_anew(function, *good.values())

    def test_any_value(self):
        for _, function, errors in rows():
            for name, error in errors.items():
                for value in any_values():
                    if error is None:
                        function(**{**good_values(function), name: value})
                    elif error.__name__ != "BadRows" and not is_right(error, value, function):
                        told = {"NoKit": {"kit": value}, "NoVersion": {"version": value}}.get(error.__name__, {})
                        wrong = {**good_values(function), name: value}
                        self.refuses(error, function, *wrong.values(), **told)

    def test_order_of_errors(self):
        for _, function, errors in rows():
            order = TURNED.get(function.__name__, [name for name, error in errors.items() if error])
            for place, name in enumerate(order):
                good = good_values(function)
                for other in order[place + 1:]:
                    self.refuses(errors[name], function, *{**good, name: None, other: None}.values())
                wrong = {**good, **{other: "?" for other in order[place:]}}
                self.refuses(errors[name], function, *wrong.values())

    def test_tuples_for_lists(self):
        for _, function, _ in rows():
            good = good_values(function)
            lists = {name: tuple(value) for name, value in good.items() if isinstance(value, list)}
            if lists:
                self.assertEqual(strict(function(**{**good, **lists})), strict(function(**good)), function)

    def test_orders_of_keys(self):
        for _, function, _ in rows():
            good = good_values(function)
            found = function(**{name: turned(value) for name, value in good.items()})
            self.assertEqual(strict(found), strict(function(**good)), function)
            self.rising(found)

    def test_ranked(self):
        registry = Registry(APP)
        for _, function, errors in rows():
            if "ranked" in errors:
                for value in [["app"], ["app", "app"], ["app", "lib", "lib"], ["app", "lib", "zz"], ["app", "zz"], [],
                              {"app": 1, "lib": 1}, "app", ["app", None], ["app", ["lib"]], ["lib", "app", 1], None]:
                    wrong = {**good_values(function), "registry": registry, "ranked": value}
                    self.refuses(errors["ranked"], function, *wrong.values())

    def test_roots(self):
        for _, function, errors in rows():
            if "roots" in errors:
                five = {kit: ALL for kit in ("app", "b", "c", "d", "e")}
                for value in [five, {"APP": ALL}, {"app": None}, {"app": [(V1, V2)]}, {1: ALL}, [("app", ALL)], {"": ALL},
                              {"app": ALL, None: ALL}]:
                    self.refuses(errors["roots"], function, *{**good_values(function), "roots": value}.values())

    def test_sets(self):
        for _, function, errors in rows():
            for name, error in errors.items():
                if error is kitwright.errors.BadSet:
                    for value in [{"app": (True, 0, 0)}, {"app": ()}, {"zz": V1}, {"app": (9, 0, 0)}, {"app": [1, 0, 0]},
                                  {"app": V1, 1: V1}, [("app", V1)], {"lib": V1, "app": None}]:
                        self.refuses(error, function, *{**good_values(function), name: value}.values())


class Copies(Case):
    def test_registry(self):
        ranged = Range([(V1, V2)])
        kits = {"a": {V1: ({"b": ranged}, {"c": ranged}, ("d",))}}
        registry = Registry(kits)
        told = kits_dict(registry)
        ranged.__init__([])
        kits["a"][V1][0]["x"] = ALL
        kits["a"][V2] = EMPTY
        kits["e"] = {}
        self.assertEqual(strict(kits_dict(registry)), strict(
            {"a": {V1: ({"b": Range([(V1, V2)])}, {"c": Range([(V1, V2)])}, ("d",))}}))
        self.assertEqual(strict(kits_dict(registry)), strict(told))

    def test_operators_by_any_value(self):
        for value in any_values():
            if not isinstance(value, Range):
                self.refuses(NotRange, lambda: LOW & value)


if __name__ == "__main__":
    unittest.main()
