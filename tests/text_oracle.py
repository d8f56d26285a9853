"""What the languages of [2.1], [2.2] and [14.1] hold, told in another way than the package reads them.

A beginning can be read on if one of some endings makes it a text of the language. As the beginnings of a text that
can be read on are just those up to some length, that length is found by halving.
"""

import itertools
import re

NUMBER = "(0|[1-9][0-9]{0,8})"
NUMBERS = f"(-|{NUMBER}( {NUMBER})*)"
LAND = re.compile(rf"shires {NUMBER}(\nborder {NUMBER} {NUMBER} {NUMBER})*(\nturn {NUMBERS})*", re.ASCII)
LOT = re.compile(f"lot {NUMBERS}", re.ASCII)
TABLE = re.compile(rf"table(\nat {NUMBERS})*(\nalong {NUMBERS})*", re.ASCII)
GREAT = "(0|[1-9][0-9]{0,59})"
ONE_DEED = f"(length {GREAT} {GREAT}|join {GREAT}|shrink {GREAT})"
DEED = re.compile(ONE_DEED, re.ASCII)
LOG = re.compile(rf"({ONE_DEED}(\n{ONE_DEED})*)?", re.ASCII)
DEED_ENDINGS = ("length 0 0", "join 0", "shrink 0")
PART = f"({NUMBER}|P)"
PAIR = re.compile(rf"\({PART} {PART}\)")


def is_plan_text(text):
    if "P" in text:
        return False
    while PAIR.search(text):
        # P, not a number: signs beside a pair must not come to a number with it.
        text = PAIR.sub("P", text)
    return re.fullmatch(f"plan {PART}", text) is not None


def has(language):
    return lambda text: language.fullmatch(text) is not None


def endings(*words):
    return lambda beginning: [word[k:] for word in words for k in range(len(word) + 1)]


def plan_endings(beginning):
    if "(" not in beginning:
        return endings("plan 0")(beginning)
    depth = beginning.count("(")
    closings = ["".join(row) for many in range(depth + 1) for row in itertools.product((")", " 0)"), repeat=many)]
    return [begun + closing for begun in ("", "0") for closing in closings]


LANGUAGES = {
    "land": (has(LAND), endings("shires 0", "\nborder 0 0 0", "\nturn 0")),
    "lot": (has(LOT), endings("lot 0")),
    "table": (has(TABLE), endings("table", "\nat 0", "\nalong 0")),
    "plan": (is_plan_text, plan_endings),
    "deed": (has(DEED), endings(*DEED_ENDINGS)),
    "log": (has(LOG), endings(*DEED_ENDINGS, *["\n" + ending for ending in DEED_ENDINGS])),
}


def is_in(name, text):
    return LANGUAGES[name][0](text)


def place_in(name, text):
    """The length of the longest beginning of text that is a beginning of some text of the language."""
    holds, ended = LANGUAGES[name]
    low, high = 0, len(text)
    while low < high:
        middle = (low + high + 1) // 2
        if any(holds(text[:middle] + ending) for ending in ended(text[:middle])):
            low = middle
        else:
            high = middle - 1
    return low
