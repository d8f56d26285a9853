"""What [12.1] tells of deeds, told in another way than the package does it, and deeds thrown for a land."""

from tests.changes_oracle import joined_land, shrunk_land
from tests.plans_oracle import whole


def land_behind(land, value):
    """The land behind a deed, None for what is no deed of the land."""
    if type(value) is not tuple or value == () or type(value[0]) is not str or not all(map(whole, value[1:])):
        return None
    arity = {"length": 3, "join": 2, "shrink": 2}
    if arity.get(value[0]) != len(value) or value[1] not in range(len(land[1])):
        return None
    e = value[1]
    if value[0] == "length":
        longer = land[:3] + (land[3][:e] + (value[2],) + land[3][e + 1:],)
        return longer if value[2] > 0 and longer != land else None
    if value[0] == "join":
        return joined_land(land, e) if land[0] > 2 else None
    return shrunk_land(land, e)


def some_deed(dice, land, most=9):
    """A deed of the land."""
    while True:
        e = dice.below(len(land[1]))
        deed = dice.pick((("length", e, 1 + dice.below(most)), ("length", e, 1 + dice.below(most)), ("join", e), ("shrink", e)))
        if land_behind(land, deed) is not None:
            return deed


def some_deeds(dice, land, many, most=9):
    """Deeds, one behind another, for as long as there are any that are no mere lengths, and the lands behind each."""
    deeds, lands = [], [land]
    for _ in range(many):
        deeds.append(some_deed(dice, lands[-1], most))
        lands.append(land_behind(lands[-1], deeds[-1]))
    return deeds, lands


# What is no deed for any land of six borders at most whose lengths are all below 100.
NO_DEEDS = (("length", 0), ("length", 0, 0), ("length", 0, -3), ("length", 0, True), ("length", 0, None), ("length", 0, "3"),
            ("length", 0, 100, 1), ("length", -1, 100), ("length", 6, 100), ("length", True, 100), ("length", False, 100),
            ("length", None, 100), ("length", 0, (100,)), ("length", (0, 100)), ("join",), ("join", 6), ("join", -1),
            ("join", True), ("join", False), ("join", None), ("join", "0"), ("join", 0, 0), ("join", 10 ** 59), ("join", (0,)),
            ("shrink",), ("shrink", 6), ("shrink", -1), ("shrink", False), ("shrink", 0, 1), ("shrink", [0]), ["join", 0],
            ["length", 0, 100], ["shrink", 0], ("Join", 0), ("joined", 0), ("", 0), (None, 0), ((), 0), (["join"], 0), (0, "join"),
            ("undo",), ("length", 0, 100.0), "join 0", ("join", 0, None), {"join": 0}, {0: "join", 1: 0})
