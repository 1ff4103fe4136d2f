"""Lines that are said to a desk: words, and what they tell."""

from kitwright.errors import BadText
from kitwright.ranges import is_kit
from kitwright.rangetexts import read_range, read_version

# What stands behind the first word of a line; the last of it goes to the end of the line.
FORMS = {
    "kit": ("kit", "version"), "wants": ("kit", "version", "kit", "range"),
    "bars": ("kit", "version", "kit", "range"), "after": ("kit", "version", "kit"), "open": ("kits",),
    "publish": ("kit", "version"), "withdraw": ("kit", "version"), "want": ("kit", "range"), "drop": ("kit",),
    "renew": (), "step": ("kit", "state"), "undo": (), "held": (), "roots": (), "why": ("kit",), "stale": (),
    "best": (), "sets": (), "quarrels": ("kit", "range")}


def read_kit(text):
    """The kit that a text is."""
    if not is_kit(text):
        raise BadText(0)
    return text


def read_part(kind, text):
    """What a text of a kind tells."""
    if kind == "kit":
        return read_kit(text)
    if kind == "kits":
        return [read_kit(word) for word in text.split(" ")]
    if kind == "range":
        return read_range(text)
    return () if kind == "state" and text == "-" else read_version(text)


def read_line(line):
    """The list of the first word of a line and of what the others tell; BadText for any value that has no form."""
    words = line.split(" ") if isinstance(line, str) else [""]
    if words[0] not in FORMS:
        raise BadText(0)
    kinds = FORMS[words[0]]
    # The last kind takes all words that are left.
    texts = words[1:len(kinds)] + [" ".join(words[len(kinds):])] if kinds else words[1:]
    if len(texts) != len(kinds):
        raise BadText(len(words))
    return [words[0]] + [read_part(kind, text) for kind, text in zip(kinds, texts)]
