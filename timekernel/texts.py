"""Rows of a log as lines of a text."""

from timekernel.calls import ARGUMENTS
from timekernel.checks import is_at_least, is_integer
from timekernel.clocks import is_plain
from timekernel.errors import NoCall, NoRow

MOST_DIGITS = 1000
# No integer of so many digits has more bits.
MOST_BITS = 3322
WORDS = {"none": None, "yes": True, "no": False, "steady": "steady", "real": "real", "boot": "boot"}


def shown_row(row):
    """The line of a row."""
    return " ".join([row[0]] + [shown_part(part) for part in row[1:]])


def shown_part(part):
    """The word of an argument."""
    if part is None:
        return "none"
    if isinstance(part, bool):
        return "yes" if part else "no"
    if is_plain(part):
        return part
    if isinstance(part, list):
        numbers = ",".join([shown_integer(number) for number in part])
        return f"[{numbers}]"
    if is_number_of(part):
        return f"{part[0]}:{shown_integer(part[1])}"
    return shown_integer(part)


def is_number_of(thing):
    """Whether an object is like the clock of a thread or a process, of whatever number."""
    return (isinstance(thing, tuple) and len(thing) == 2 and thing[0] in ("thread", "process")
            and is_at_least(thing[1], 0))


def shown_integer(number):
    """An integer in decimal."""
    # Python itself shows no integers that are much longer.
    if is_integer(number) and number.bit_length() <= MOST_BITS:
        digits = str(abs(number))
        if len(digits) <= MOST_DIGITS:
            return digits if number >= 0 else "-" + digits
    raise NoCall("such an argument cannot be written")


def read_row(text, line):
    """The row of a line; `line` is the number of the line."""
    name, *words = text.split(" ")
    if ARGUMENTS.get(name) != len(words):
        raise NoRow("a line is the name of a call and as many arguments as it has", line)
    return (name,) + tuple([read_part(word, line) for word in words])


def read_part(word, line):
    """The argument of a word."""
    if word in WORDS:
        return WORDS[word]
    if word.startswith("[") and word.endswith("]"):
        inner = word[1:-1]
        return [read_integer(part, line) for part in inner.split(",")] if inner else []
    kind, _, number = word.partition(":")
    if kind in ("thread", "process") and not number.startswith("-"):
        return (kind, read_integer(number, line))
    return read_integer(word, line)


def read_integer(word, line):
    """The integer of a word in decimal."""
    digits = word.removeprefix("-")
    if not is_decimal(digits) or word == "-0":
        raise NoRow("such a word stands for no argument", line)
    return int(word)


def is_decimal(digits):
    """Whether a text is an integer >= 0 in decimal, without leading zeros."""
    if not digits.isascii() or not digits.isdigit() or len(digits) > MOST_DIGITS:
        return False
    return digits == "0" or not digits.startswith("0")
