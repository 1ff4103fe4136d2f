"""The errors, as the interface lists them."""

import re
import unittest

import kitwright.errors
from kitwright.errors import KitError
from tests.samples import Case, any_values

TOLD = """BadVersion NotRange NotRegistry BadRoots BadSet NotSound BadNumber BadRanked BadKit BadManifest Taken LastOne
BadNames BadLine OtherKits NoEntry BadClause NotShared NoneSound BadPrices NotFloors BadBounds BadStep BadLot BadSizes
BadHint BadOrder BadSwap BadWeb BadLayout BadPath BadFit BadTop BadPins BadWeights NotLock NoSet BadTheory BadWorked
NoInstall BadState NothingDone NotProject"""
VALUED = """BadRange(at), BadVersions(part), BadText(at), BadRegistry(spot), CommonKit(kit), NoKit(kit),
NoVersion(version), TooMany(most), BadClauses(at), BadRows(at), BadDemands(at), BadLots(at), BadWay(at), BadTrials(at),
NoTheory(at), BadCulprits(part), BadIndex(at), NoRoot(kit), InUse(kit), BadLog(at)"""


def valued():
    """The pairs of a name and an attribute."""
    return re.findall(r"(\w+)\((\w+)\)", VALUED)


class Errors(Case):
    def test_all_are_there(self):
        names = set(TOLD.split()) | {name for name, _ in valued()} | {"KitError"}
        found = {name for name, value in vars(kitwright.errors).items() if isinstance(value, type)}
        self.assertEqual(found, names)

    def test_each_stands_directly_below(self):
        self.assertEqual(KitError.__bases__, (ValueError,))
        for name in TOLD.split() + [name for name, _ in valued()]:
            self.assertEqual(getattr(kitwright.errors, name).__bases__, (KitError,), name)
            self.assertEqual(getattr(kitwright.errors, name).__module__, "kitwright.errors")

    def test_messages(self):
        for name in TOLD.split() + ["KitError"]:
            self.assertEqual(str(getattr(kitwright.errors, name)("so it is")), "so it is")

    def test_values(self):
        for name, attribute in valued():
            error = getattr(kitwright.errors, name)
            for value in any_values():
                self.assertIs(getattr(error(value), attribute), value)
                self.assertIs(getattr(error(**{attribute: value}), attribute), value)
                self.assertIsInstance(str(error(value)), str)


if __name__ == "__main__":
    unittest.main()
