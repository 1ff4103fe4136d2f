"""Texts of ranges and versions: read to what they mean, written with as few terms as can be."""

from kitwright.errors import BadText
from kitwright.ranges import Range, check_range, check_version, range_of
from kitwright.stretches import ZERO, earlier_end

DIGITS = "0123456789"
# The longer signs stand ahead of those that they begin with.
SIGNS = (">=", "<=", ">", "<", "=", "~", "^", "")
# Those of the signs with which ranges are written, in the order in which they are chosen.
WRITTEN = ("", "^", "~", ">=", "<")


def is_numeral(word):
    """Whether a string is a number from 0 on as Python writes it."""
    if word == "" or not all([letter in DIGITS for letter in word]):
        return False
    return word == "0" or word[0] != "0"


def part_numbers(word):
    """The tuple of the one to three numbers of a PART, None for any other word."""
    pieces = word.split(".")
    if len(pieces) > 3 or not all([is_numeral(piece) for piece in pieces]):
        return None
    return tuple([int(piece) for piece in pieces])


def part_text(numbers):
    """The numbers with points between them."""
    return ".".join([str(number) for number in numbers])


def part_first(numbers):
    """The version with 0 for the numbers that are missing."""
    return numbers + (0,) * (3 - len(numbers))


def part_end(numbers):
    """The least version whose numbers that are told are greater."""
    return part_first(numbers[:-1] + (numbers[-1] + 1,))


def caret_numbers(numbers):
    """The numbers up to the first one that is not 0; all, if they are all 0."""
    for at, number in enumerate(numbers):
        if number != 0:
            return numbers[:at + 1]
    return numbers


def signed_span(sign, numbers):
    """The pair (low, high) of the versions of a term of a sign and a PART; high may be low, and then there is none."""
    first, end = part_first(numbers), part_end(numbers)
    if sign == ">=":
        return first, None
    if sign == ">":
        return end, None
    if sign == "<":
        return ZERO, first
    if sign == "<=":
        return ZERO, end
    if sign == "~":
        return first, part_end(numbers[:2])
    if sign == "^":
        return first, part_end(caret_numbers(numbers))
    return first, end


def word_span(words, at):
    """The pair (low, high) of the versions of the term that has to stand there."""
    if at == len(words):
        raise BadText(at)
    word = words[at]
    if word == "*":
        return ZERO, None
    sign = [known for known in SIGNS if word.startswith(known)][0]
    numbers = part_numbers(word[len(sign):])
    if numbers is None:
        raise BadText(at)
    return signed_span(sign, numbers)


def part_at(words, at):
    """The numbers of the PART that has to stand there."""
    numbers = part_numbers(words[at]) if at < len(words) else None
    if numbers is None:
        raise BadText(at)
    return numbers


def read_choice(words, at):
    """The triple (low, high, next) of the versions of the choice that begins there, and where it is over."""
    low, high = word_span(words, at)
    at += 1
    if at < len(words) and words[at] == "-" and part_numbers(words[at - 1]) is not None:
        return low, part_end(part_at(words, at + 1)), at + 2
    while at < len(words) and words[at] != "||":
        start, end = word_span(words, at)
        low, high = max(low, start), earlier_end(high, end)
        at += 1
    return low, high, at


def read_choices(words):
    """The pairs (low, high) of all choices of a text."""
    low, high, at = read_choice(words, 0)
    found = [(low, high)]
    while at < len(words):
        if words[at] != "||":
            raise BadText(at)
        low, high, at = read_choice(words, at + 1)
        found.append((low, high))
    return found


def read_range(text):
    """The Range that a text tells."""
    if not isinstance(text, str):
        raise BadText(0)
    words = text.split(" ")
    if words[0] == "none":
        if len(words) > 1:
            raise BadText(1)
        return Range()
    return range_of([(low, high) for low, high in read_choices(words) if high is None or low < high])


def single_term(low, high):
    """The one term that has just the versions of a stretch, None if there is none."""
    if low == ZERO and high is None:
        return "*"
    for sign in WRITTEN:
        # A stretch without an end is found at `>=`, so that at `<` there is one.
        told = high if sign == "<" else low
        for many in (1, 2, 3):
            if signed_span(sign, told[:many]) == (low, high):
                return sign + part_text(told[:many])
    return None


def stretch_text(low, high):
    """A stretch as a choice of one term or two."""
    term = single_term(low, high)
    return f">={part_text(low)} <{part_text(high)}" if term is None else term


def range_text(ranged):
    """The text of a range with the fewest terms."""
    check_range(ranged)
    if not ranged.stretches:
        return "none"
    return " || ".join([stretch_text(low, high) for low, high in ranged.stretches])


def terms_needed(ranged):
    """How many terms the text of a range has, `none` counting as one."""
    check_range(ranged)
    if not ranged.stretches:
        return 1
    return sum([2 if single_term(low, high) is None else 1 for low, high in ranged.stretches])


def version_text(version):
    """The text of a version."""
    check_version(version)
    return part_text(version)


def read_version(text):
    """The version with a text."""
    numbers = part_numbers(text) if isinstance(text, str) else None
    if numbers is None or len(numbers) != 3:
        raise BadText(0)
    return numbers
