"""The form of webs, which [70] asks of a parameter called web: a helper of the package, tried by its own name."""

import unittest

from kitwright.webforms import has_web_form
from tests.samples import V1, V2, V3, Case, any_values
from tests.test_webs import HAND_WEB, LEAN_WEB, wrong_forms


class WebForms(Case):
    def test_kinds(self):
        tops, links = HAND_WEB
        for value in (HAND_WEB, LEAN_WEB):
            self.assertIs(has_web_form(value), True)
        for value in wrong_forms():
            self.assertIs(has_web_form(value), False, value)
        for value in any_values():
            self.assertIs(has_web_form(value), False)
            self.assertIs(has_web_form((value, links)), False)
            self.assertIs(has_web_form((tops, value)), False)

    def test_conditions(self):
        for tops, links, right in [
                ({"e": V1}, HAND_WEB[1], True), ({}, {}, True), ({"x": V3}, {("x", V3): {}}, True),
                # A node more, a node less, a node that no link leads to.
                ({"x": V3}, {("x", V3): {}, ("y", V1): {}}, False), ({"x": V3}, {("x", V3): {"y": V1}}, False),
                ({"x": V3}, {("x", V2): {}}, False), ({}, {("x", V3): {}}, False),
                # Rings.
                ({"x": V3}, {("x", V3): {"x": V3}}, False), ({"x": V3}, {("x", V3): {"x": V2}, ("x", V2): {}}, True),
                ({"x": V3}, {("x", V3): {"x": V2}, ("x", V2): {"x": V3}}, False),
                ({"x": V1}, {("x", V1): {"y": V1}, ("y", V1): {"z": V1}, ("z", V1): {"y": V1}}, False)]:
            self.assertIs(has_web_form((tops, links)), right, (tops, links))

    def test_limits(self):
        def form(*nodes):
            tops = dict(nodes[:1])
            return tops, {node: dict(nodes[at + 1:at + 2]) for at, node in enumerate(nodes)}
        five = [(kit, V1) for kit in "abcde"]
        self.assertIs(has_web_form(form(*five)), True)
        self.assertIs(has_web_form(form(*five, ("f", V1))), False)
        self.assertIs(has_web_form((dict(five[:4]), {node: {} for node in five[:4]})), True)
        self.assertIs(has_web_form((dict(five), {node: {} for node in five})), False)
        many = [(kit, (n, 0, 0)) for kit, most in zip("abcde", (4, 4, 3, 2, 1)) for n in range(1, most + 1)]
        self.assertIs(has_web_form(form(*many)), True)
        self.assertIs(has_web_form(form(*many, ("e", V2))), False)
        self.assertIs(has_web_form(form(*[("a", (n, 0, 0)) for n in range(599)])), True)
        self.assertIs(has_web_form(form(*[("a", (n, 0, 0)) for n in range(600)])), False)


if __name__ == "__main__":
    unittest.main()
