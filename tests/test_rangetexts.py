"""Promises [14] and [15]: texts of ranges and versions."""

import itertools
import random
import unittest

from kitwright.errors import BadText, BadVersion, NotRange
from kitwright.ranges import Range, is_version
from kitwright.rangetexts import range_text, read_range, read_version, terms_needed, version_text
from tests.samples import ALL, NONE, V2, Case, any_values

PARTS = [".".join(map(str, numbers)) for size in (1, 2, 3) for numbers in itertools.product((0, 1, 2, 10), repeat=size)]


def bounds(sign, part):
    """The stretch of a term, reckoned by the words of [14]; low may be high."""
    told = [int(piece) for piece in part.split(".")]
    first = tuple((told + [0, 0])[:3])

    def end(many):
        return tuple((told[:many - 1] + [told[many - 1] + 1] + [0, 0])[:3])

    if sign in ("", "="):
        return first, end(len(told))
    if sign == ">=":
        return first, None
    if sign == ">":
        return end(len(told)), None
    if sign == "<":
        return (0, 0, 0), first
    if sign == "<=":
        return (0, 0, 0), end(len(told))
    if sign == "~":
        return first, end(min(2, len(told)))
    many = 1
    while many < len(told) and told[many - 1] == 0:
        many += 1
    return first, end(many)


def ranged_of(low, high):
    """The range of one stretch, perhaps an empty one."""
    return Range([(low, high)] if high is None or low < high else [])


class Promise14(Case):
    def test_terms(self):
        for part in PARTS:
            for sign in ("", "=", ">=", ">", "<", "<=", "~", "^"):
                self.assertEqual(read_range(sign + part), ranged_of(*bounds(sign, part)), sign + part)
        self.assertEqual(read_range(text="*"), ALL)
        self.assertEqual(read_range("none"), NONE)

    def test_terms_by_hand(self):
        for text, low, high in [
                ("1", (1, 0, 0), (2, 0, 0)), ("1.2", (1, 2, 0), (1, 3, 0)), ("1.2.3", (1, 2, 3), (1, 2, 4)),
                ("=1.2", (1, 2, 0), (1, 3, 0)), (">=1.2", (1, 2, 0), None), (">1.2", (1, 3, 0), None),
                (">1.2.3", (1, 2, 4), None), ("<1.2", (0, 0, 0), (1, 2, 0)), ("<=1.2", (0, 0, 0), (1, 3, 0)),
                ("~1", (1, 0, 0), (2, 0, 0)), ("~1.2", (1, 2, 0), (1, 3, 0)), ("~1.2.3", (1, 2, 3), (1, 3, 0)),
                ("^1.2.3", (1, 2, 3), (2, 0, 0)), ("^0.2.3", (0, 2, 3), (0, 3, 0)), ("^0.0.3", (0, 0, 3), (0, 0, 4)),
                ("^0", (0, 0, 0), (1, 0, 0)), ("^0.0", (0, 0, 0), (0, 1, 0)), ("^0.0.0", (0, 0, 0), (0, 0, 1)),
                ("^0.2", (0, 2, 0), (0, 3, 0)), ("^2.0", (2, 0, 0), (3, 0, 0)), ("<0", (0, 0, 0), (0, 0, 0)),
                ("12.0.345", (12, 0, 345), (12, 0, 346)), ("1 - 2", (1, 0, 0), (3, 0, 0)),
                ("1.2 - 1.2.3", (1, 2, 0), (1, 2, 4)), ("2 - 1.9", (2, 0, 0), (2, 0, 0)), ("0 - 0", (0, 0, 0), (1, 0, 0)),
                ("1.2.3 - 2.3", (1, 2, 3), (2, 4, 0)), (">1 <3", (2, 0, 0), (3, 0, 0)),
                ("^1 >=1.5 <=1.7", (1, 5, 0), (1, 8, 0)), ("1 1.2 =1.2.3", (1, 2, 3), (1, 2, 4)),
                (">=2 <1", (2, 0, 0), (2, 0, 0)), ("* * *", (0, 0, 0), None)]:
            self.assertEqual(read_range(text), ranged_of(low, high), text)

    def test_choices(self):
        rng = random.Random(21)
        for _ in range(300):
            wanted, choices = NONE, []
            for _ in range(rng.randint(1, 4)):
                if rng.random() < 0.2:
                    one, other = rng.choice(PARTS), rng.choice(PARTS)
                    choices.append(f"{one} - {other}")
                    wanted = wanted | ranged_of(bounds("", one)[0], bounds("", other)[1])
                    continue
                terms, ranged = [], ALL
                for _ in range(rng.randint(1, 3)):
                    sign, part = rng.choice(["", "=", ">=", ">", "<", "<=", "~", "^"]), rng.choice(PARTS)
                    terms.append(sign + part)
                    ranged = ranged & ranged_of(*bounds(sign, part))
                choices.append(" ".join(terms))
                wanted = wanted | ranged
            self.assertEqual(read_range(" || ".join(choices)), wanted, choices)
        self.assertEqual(read_range("^0.2.3 <0.2.9 || 4 - 4.1").stretches,
                         (((0, 2, 3), (0, 2, 9)), ((4, 0, 0), (4, 2, 0))))

    def test_many_choices(self):
        text = " || ".join(str(2 * at) for at in range(400))
        self.assertEqual(len(read_range(text).stretches), 400)
        self.assertEqual(read_range(range_text(read_range(text))), read_range(text))

    def test_where_a_text_goes_wrong(self):
        words = {"p": "1.2", "t": ">=3", "d": "-", "o": "||", "n": "none", "e": "", "x": "01"}
        right = set()

        def grow(text):
            """All right texts of up to six words, as strings of letters."""
            if len(text) > 6:
                return
            for size in range(1, 5):
                for choice in itertools.product("pt", repeat=size):
                    add(text + "".join(choice))
            add(text + "pdp")

        def add(text):
            if len(text) <= 6:
                right.add(text)
                grow(text + "o")

        grow("")
        right.add("n")
        ahead = {text[:size] for text in right for size in range(len(text) + 1)}
        for size in range(1, 5):
            for letters in itertools.product(words, repeat=size):
                text = " ".join(words[letter] for letter in letters)
                wrong = [at for at in range(size) if "".join(letters[:at + 1]) not in ahead]
                if wrong:
                    self.refuses(BadText, read_range, text, at=wrong[0])
                elif "".join(letters) not in right:
                    self.refuses(BadText, read_range, text, at=size)
                else:
                    self.assertIsInstance(read_range(text), Range)

    def test_wrong_words(self):
        for word in ["01", "1.02", "1.", ".1", "1..2", "1.2.3.4", "+1", "-1", "a", "1a", ">", ">=", "=>1", "==1", ">>1",
                     "=", "<", "<=", "~", "^", "=*", ">=*", "^*", "**", "|", "|||", "||1", "1||", "None", "NONE", "1,2",
                     "1_0", "0x1", "~~1", "^~1", "~=1", "= 1", "--", "1-2", "\n", "1\n", "\t", "00", "1.2.00", "1e3",
                     "x.1", "*1", "1*", "1.*", "!1", "v1", "\u0661", "\u00b2"]:
            self.refuses(BadText, read_range, word, at=0)
            self.refuses(BadText, read_range, "1 || " + word, at=2)
            self.refuses(BadText, read_range, ">=1 " + word + " 2", at=1)

    def test_where_by_hand(self):
        for text, at in [("", 0), (" ", 0), ("1 ", 1), (" 1", 0), ("1  2", 1), ("1 -", 2), ("1 - ", 2), ("- 1", 0),
                         ("1 - -", 2), ("1 - >=2", 2), ("1 - 2 3", 3), ("1 - 2 - 3", 3), ("1 2 - 3", 2), ("=1 - 2", 1),
                         ("* - 2", 1), ("||", 0), ("1 ||", 2), ("1 || ||", 2), ("1 || - 2", 2), ("none none", 1),
                         ("none 1", 1), ("none ||", 1), ("none ", 1), ("1 none", 1), ("1 || none", 2), ("1 - none", 2),
                         ("1 || 2 - 3 ||", 6), ("1 - 2 || 3 -", 6), ("1\n2", 0), ("1 - 2 *", 3)]:
            self.refuses(BadText, read_range, text, at=at)

    def test_no_strings(self):
        for value in any_values():
            if not isinstance(value, str):
                self.refuses(BadText, read_range, value, at=0)
            elif value not in ("1.2.3", "none", "*"):
                self.refuses(BadText, read_range, value, at=0)

    def test_words_mixed_up(self):
        rng = random.Random(22)
        for _ in range(300):
            words = "1.2 >=1 <3 || 1 - 2.5 || ~0.3".split(" ")
            for _ in range(rng.randint(1, 2)):
                at, other = rng.randrange(len(words)), rng.randrange(len(words))
                deed = rng.choice("odxi")
                if deed == "o":
                    del words[at]
                elif deed == "d":
                    words.insert(at, words[at])
                elif deed == "x":
                    words[at], words[other] = words[other], words[at]
                else:
                    words.insert(at, rng.choice(["", "-", "||", "none", "1", "<4", "00"]))
            text = " ".join(words)
            try:
                read_range(text)
            except BadText as caught:
                # Behind the words ahead of it a text goes on, and with it no more.
                ahead = words[:caught.at]
                goes_on = [" ".join(ahead + more) for more in ([], ["1"], ["|| 1"], ["- 1"])]
                self.assertTrue(caught.at == 0 or any(self.reads(one.strip()) for one in goes_on), text)
                if caught.at < len(words):
                    ahead = words[:caught.at + 1]
                    goes_on = [" ".join(ahead + more) for more in ([], ["1"], ["|| 1"], ["- 1"])]
                    self.assertFalse(any(self.reads(one) for one in goes_on), text)

    def reads(self, text):
        """Whether this is a text."""
        try:
            read_range(text)
        except BadText:
            return False
        return True


def some_ends(rng):
    """Two ends of a stretch, near to 0."""
    points = [(0, 0, 0), (0, 0, 1), (0, 0, 4), (0, 1, 0), (0, 2, 0), (0, 2, 3), (0, 3, 0), (1, 0, 0), (1, 0, 1),
              (1, 2, 0), (1, 2, 3), (1, 2, 4), (1, 3, 0), (1, 4, 0), (2, 0, 0), (2, 0, 1), (3, 0, 0), (12, 0, 0), None]
    low, high = sorted(rng.sample(range(len(points)), 2))
    return points[low], points[high]


class Promise15(Case):
    ORDER = ["*", "", "^", "~", ">=", "<"]

    def term_for(self, low, high):
        """The term that [15] chooses, found by trying all."""
        if (low, high) == ((0, 0, 0), None):
            return "*"
        numbers = sorted({end[at] for end in (low, high or low) for at in range(3)})
        parts = [".".join(map(str, told)) for size in (1, 2, 3) for told in itertools.product(numbers, repeat=size)]
        for sign in self.ORDER[1:]:
            for part in parts:
                if bounds(sign, part) == (low, high):
                    return sign + part
        return None

    def test_one_stretch(self):
        rng = random.Random(23)
        for _ in range(250):
            low, high = some_ends(rng)
            ranged, term = Range([(low, high)]), self.term_for(low, high)
            if term is None:
                term = ">={}.{}.{} <{}.{}.{}".format(*low, *high)
            self.same(range_text(ranged), term)
            self.same(terms_needed(ranged), len(term.split(" ")))
            self.same(read_range(term), ranged)

    def test_no_term_is_overlooked(self):
        rng = random.Random(24)
        terms = {bounds(sign, part): sign + part for sign in ("", "=", ">=", ">", "<", "<=", "~", "^") for part in PARTS}
        for low, high in terms:
            if high is None or low < high:
                self.assertEqual(terms_needed(Range([(low, high)])), 1, terms[low, high])
        for _ in range(100):
            low, high = some_ends(rng)
            if terms_needed(Range([(low, high)])) == 2:
                self.assertNotIn((low, high), terms)

    def test_several_stretches(self):
        rng = random.Random(25)
        for _ in range(200):
            ranged = Range([some_ends(rng) for _ in range(rng.randint(0, 4))])
            text = range_text(ranged)
            self.assertEqual(read_range(text), ranged)
            choices = [range_text(Range([stretch])) for stretch in ranged.stretches]
            self.same(text, " || ".join(choices) if choices else "none")
            words = [word for word in text.split(" ") if word != "||"]
            self.same(terms_needed(ranged), len(words))

    def test_by_hand(self):
        for stretches, text, many in [
                ([], "none", 1), ([((0, 0, 0), None)], "*", 1), ([((1, 0, 0), (2, 0, 0)), ((3, 0, 0), None)], "1 || >=3", 2),
                ([((1, 2, 0), (1, 3, 0))], "1.2", 1), ([((1, 2, 3), (1, 2, 4))], "1.2.3", 1),
                ([((1, 2, 3), (2, 0, 0))], "^1.2.3", 1), ([((1, 2, 3), (1, 3, 0))], "~1.2.3", 1),
                ([((1, 2, 0), (2, 0, 0))], "^1.2", 1), ([((0, 2, 3), (0, 3, 0))], "^0.2.3", 1),
                ([((0, 0, 3), (0, 1, 0))], "~0.0.3", 1), ([((0, 0, 3), (0, 0, 4))], "0.0.3", 1),
                ([((0, 0, 0), (1, 0, 0))], "0", 1), ([((0, 0, 0), (0, 1, 0))], "0.0", 1),
                ([((0, 0, 0), (0, 0, 1))], "0.0.0", 1), ([((0, 0, 0), (2, 0, 0))], "<2", 1),
                ([((0, 0, 0), (2, 0, 1))], "<2.0.1", 1), ([((0, 0, 0), (0, 3, 0))], "<0.3", 1),
                ([((0, 0, 1), None)], ">=0.0.1", 1), ([((0, 1, 0), None)], ">=0.1", 1), ([((3, 0, 0), None)], ">=3", 1),
                ([((0, 1, 0), (1, 0, 0))], ">=0.1.0 <1.0.0", 2), ([((1, 0, 0), (3, 0, 0))], ">=1.0.0 <3.0.0", 2),
                ([((1, 0, 0), (1, 2, 0))], ">=1.0.0 <1.2.0", 2), ([((12, 0, 0), (13, 0, 0))], "12", 1)]:
            self.same(range_text(Range(stretches)), text)
            self.same(terms_needed(ranged=Range(stretches)), many)
        self.same(range_text(ranged=Range([((1, 0, 0), (1, 2, 0)), ((1, 1, 0), (2, 0, 0)), ((3, 0, 0), None)])),
                  "1 || >=3")

    def test_great_numbers(self):
        for low, high in [((10 ** 9, 0, 0), (10 ** 9 + 1, 0, 0)), ((10 ** 20, 7, 1), (10 ** 20, 8, 0))]:
            self.assertEqual(read_range(range_text(Range([(low, high)]))), Range([(low, high)]))
        many = Range([((at, 0, 0), (at, 5, 0)) for at in range(40)])
        eighty = many | Range([((at, 6, 0), (at, 9, 0)) for at in range(40)])
        self.assertEqual(read_range(range_text(eighty)), eighty)
        self.same(terms_needed(eighty), 159)

    def test_versions(self):
        for version, text in [((0, 0, 0), "0.0.0"), ((1, 2, 3), "1.2.3"), ((10, 0, 99), "10.0.99"),
                              ((10 ** 30, 5, 0), "1" + "0" * 30 + ".5.0")]:
            self.same(version_text(version=version), text)
            self.same(read_version(text=text), version)
        for text in ["1", "1.2", "1.2.3.4", "01.2.3", "1.02.3", "1.2.3 ", " 1.2.3", "", "none", "*", "=1.2.3", "1.2.-3",
                     "1.2.x", "1..3", "1.2.", "1.2.3\n", "+1.2.3", "1.2.3 || 1.2.3"]:
            self.refuses(BadText, read_version, text, at=0)
        for value in any_values():
            if value != "1.2.3":
                self.refuses(BadText, read_version, value, at=0)
            if not is_version(value):
                self.refuses(BadVersion, version_text, value)
            if not isinstance(value, Range):
                self.refuses(NotRange, range_text, value)
                self.refuses(NotRange, terms_needed, value)
        self.assertEqual(read_version(version_text(V2)), V2)


if __name__ == "__main__":
    unittest.main()
