"""What part 3 tells of walks, rounds, noise, pieces and ways, told in another way than the package does it."""

import heapq

from foxborders.land import corners


def whole(value):
    return type(value) is int


def ends_of(land):
    """For each border the corners at its two ends, by the rounds of all corners."""
    where = {side: c for c, sides in enumerate(corners(land)) for side in sides}
    return [(where[(e, 0)], where[(e, 1)]) for e in range(len(land[1]))]


def far_table(land):
    """The least lengths between all corners, by taking each corner in turn as one that is passed."""
    many = len(corners(land))
    far = [[0 if c == d else None for d in range(many)] for c in range(many)]
    for (a, b), length in zip(ends_of(land), land[3]):
        for c, d in ((a, b), (b, a)):
            if c != d and (far[c][d] is None or length < far[c][d]):
                far[c][d] = length
    for over in range(many):
        for c in range(many):
            for d in range(many):
                if far[c][over] is not None and far[over][d] is not None:
                    length = far[c][over] + far[over][d]
                    if far[c][d] is None or length < far[c][d]:
                        far[c][d] = length
    return far


def least_round(land, e, f):
    """The least length of a round with a step along e and one along f: looked for over what is gone of both."""
    ends = ends_of(land)
    # A round can be begun ahead of its step along e.
    start = (ends[e][0], False, False)
    best, queue = {}, [(0, start)]
    while queue:
        length, place = heapq.heappop(queue)
        if place in best:
            continue
        best[place] = length
        here, one, other = place
        if (here, one, other) == (ends[e][0], True, True):
            return length
        for g, pair in enumerate(ends):
            for w in (0, 1):
                if pair[w] == here:
                    there = (pair[1 - w], one or g == e, other or g == f)
                    heapq.heappush(queue, (length + land[3][g], there))
    raise AssertionError("there always is a round")


def is_pair_of(land, value):
    return type(value) is tuple and len(value) == 2 and all(map(whole, value)) and (
        0 <= value[0] < len(land[1]) and value[1] in (0, 1))


def have_form(land, value):
    return type(value) is tuple and all(is_pair_of(land, part) for part in value)


def walk_fault(land, far, c, d, value):
    if not have_form(land, value):
        return ("form",)
    ends = ends_of(land)
    stops = [c] + [ends[e][1 - w] for e, w in value]
    wrong = [i for i, (e, w) in enumerate(value) if ends[e][w] != stops[i]]
    if wrong:
        return ("step", wrong[0])
    if stops[-1] != d:
        return ("end", stops[-1])
    length = sum(land[3][e] for e, _ in value)
    return None if length == far[c][d] else ("long", length)


def round_fault(land, e, f, value):
    if value == () or not have_form(land, value):
        return ("form",)
    ends = ends_of(land)
    stops = [ends[g][1 - w] for g, w in value]
    wrong = [i for i, (g, w) in enumerate(value) if ends[g][w] != (stops[-1:] + stops)[i]]
    if wrong:
        return ("step", wrong[0])
    lacking = [g for g in (e, f) if g not in {border for border, _ in value}]
    if lacking:
        return ("lacks", lacking[0])
    length = sum(land[3][g] for g, _ in value)
    return None if length == least_round(land, e, f) else ("long", length)


def noisy_borders(land, far, e, k):
    ends = ends_of(land)
    found = []
    for f, (c, d) in enumerate(ends):
        a, b = ends[e]
        rest = min(far[a][c] + far[b][d], far[a][d] + far[b][c])
        if f != e and land[3][e] + land[3][f] + rest < k:
            found.append(f)
    return found


def classes(shires, pairs):
    """The classes of some shires, put together by pairs that have both among them."""
    found = [{s} for s in shires]
    for a, b in pairs:
        if a in shires and b in shires:
            joined = [piece for piece in found if a in piece or b in piece]
            found = [piece for piece in found if piece not in joined] + [set().union(*joined)]
    return tuple(sorted(tuple(sorted(piece)) for piece in found))


def quiet_pairs_of(land, told):
    return [pair for f, pair in enumerate(land[1]) if f not in told]


def way_fault(land, far, e, k, s, t, value):
    if not have_form(land, value):
        return ("form",)
    told = noisy_borders(land, far, e, k)
    here = s
    for i, (f, w) in enumerate(value):
        begin, end = land[1][f][w], land[1][f][1 - w]
        faults = [word for word, wrong in (("side", begin != here), ("noisy", f in told), ("lies", end in land[1][e]))
                  if wrong]
        if faults:
            return (faults[0], i)
        here = end
    return None if here == t else ("end", here)


def fewest_sides(land, far, e, k, s):
    """For each shire to which a way leads from s, how many sides the shortest has: shire by shire outwards."""
    told = noisy_borders(land, far, e, k)
    many = {s: 0}
    reached = [s]
    while reached:
        behind = []
        for a, b in quiet_pairs_of(land, told):
            for one, other in ((a, b), (b, a)):
                if one in reached and other not in many and not {a, b} & set(land[1][e]):
                    many[other] = many[one] + 1
                    behind.append(other)
        reached = behind
    return many
