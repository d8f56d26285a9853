"""Plans counted and numbered: how many there are below a number, in one sequence, with a lot, by neighbours, in pieces.

Lots are masks here; counts has for each mask how many plans of its shires there are.
"""

from foxborders.masks import links_over, mask_of, mask_pieces, shires_in
from foxborders.plans import formed, shires_of, width


def _whole(land):
    """The mask of all shires of a land."""
    return (1 << land[0]) - 1


def _outer_by_mask(land):
    """The list with, for each mask, its outer border."""
    n, borders, _, lengths = land
    outer = [0] * (1 << n)
    for (a, b), length in zip(borders, lengths):
        for mask in range(1 << n):
            outer[mask] += length * ((mask >> a ^ mask >> b) & 1)
    return outer


def _is_single(mask):
    """Whether a mask, not 0, has one shire alone."""
    return mask & (mask - 1) == 0


def _splits(mask):
    """The list of the pairs of masks into which a mask can be parted, the least shire in the first."""
    rest = mask & (mask - 1)
    found = []
    other = rest
    while other:
        found.append((mask ^ other, other))
        other = (other - 1) & rest
    return found


def _counts(stands, beside):
    """For each mask how many plans it has whose lots all stand, in each pair of which the second is beside the first.

    stands has for each mask whether it stands, beside the mask of the shires that are beside it.
    """
    counts = [0] * len(stands)
    for mask in range(1, len(stands)):
        if stands[mask]:
            if _is_single(mask):
                counts[mask] = 1
            else:
                counts[mask] = sum([counts[one] * counts[other] for one, other in _splits(mask) if beside[one] & other])
    return counts


def _counts_below(land, k):
    """For each mask how many of its plans have outer borders below k alone."""
    outer = _outer_by_mask(land)
    return _counts([length < k for length in outer], [_whole(land)] * len(outer))


def plans_below(land, k):
    """How many plans have a width below k."""
    return _counts_below(land, k)[-1]


def _number_in(counts, plan):
    """How many of the counted plans of the same shires stand ahead of a plan in its form, which is one of them."""
    # What is still to be numbered, and how much each place of it counts: behind each first come all of its seconds.
    number = 0
    todo = [(plan, 1)]
    while todo:
        part, weight = todo.pop()
        if isinstance(part, tuple):
            one, other = part
            lot = shires_of(one)
            behind = mask_of(shires_of(other))
            for first, second in _splits(mask_of(lot) | behind):
                if shires_in(first) < lot:
                    number += weight * counts[first] * counts[second]
            todo.extend([(one, weight * counts[behind]), (other, weight)])
    return number


def plan_number(land, k, plan):
    """The number of a plan among those of a width below k, in their sequence, None if its width is k or more."""
    if width(land, plan) >= k:
        return None
    return _number_in(_counts_below(land, k), formed(plan))


def _plan_in(counts, mask, number):
    """The plan with a number among the counted plans of a mask, in their sequence."""
    if _is_single(mask):
        return shires_in(mask)[0]
    for first, second in sorted(_splits(mask), key=lambda split: shires_in(split[0])):
        many = counts[first] * counts[second]
        if number < many:
            one, other = divmod(number, counts[second])
            return (_plan_in(counts, first, one), _plan_in(counts, second, other))
        number -= many
    return None


def plan_at(land, k, i):
    """The plan with the number i among those of a width below k, in their sequence."""
    return _plan_in(_counts_below(land, k), _whole(land), i)


def _many_with(counts, mask):
    """How many of the counted plans have a mask among their lots."""
    rest = mask ^ (len(counts) - 1)
    if rest == 0:
        return counts[mask]
    # A lot and the rest have one outer border. So a plan with the lot comes of one of the lot and of one of the rest,
    # of y shires: the last pair parts all just there, or at any of the 2 y - 2 lots within the rest.
    return counts[mask] * counts[rest] * (2 * len(shires_in(rest)) - 1)


def plans_with(land, k, lot):
    """How many of the plans of a width below k have a lot among their lots."""
    return _many_with(_counts_below(land, k), mask_of(lot))


def _lots_with(counts, least):
    """The ascending tuple of the lots that stand in so many of the counted plans at least."""
    return tuple(sorted([shires_in(mask) for mask in range(1, len(counts)) if _many_with(counts, mask) >= least]))


def standing_lots(land, k):
    """The ascending tuple of the lots that stand in some plan of a width below k."""
    return _lots_with(_counts_below(land, k), 1)


def sure_lots(land, k):
    """The ascending tuple of the lots that stand in each plan of a width below k, () if there are no such plans."""
    counts = _counts_below(land, k)
    return _lots_with(counts, counts[-1]) if counts[-1] else ()


def _widths(land):
    """For each mask the least number that the outer borders of a plan of its shires do not pass."""
    widths = _outer_by_mask(land)
    for mask in range(1, len(widths)):
        if not _is_single(mask):
            best = min([max(widths[one], widths[other]) for one, other in _splits(mask)])
            widths[mask] = max(widths[mask], best)
    return widths


def least_with(land, lot):
    """The least width of a plan in which a lot stands."""
    widths = _widths(land)
    mask = mask_of(lot)
    # The rest can be joined as if the lot came last; that of all shires is 0, as wide as nothing.
    return max(widths[mask], widths[mask ^ _whole(land)])


def _narrow(widths, mask):
    """A plan of a mask whose outer borders do not pass the least number told for it."""
    if _is_single(mask):
        return shires_in(mask)[0]
    one, other = min(_splits(mask), key=lambda split: max(widths[split[0]], widths[split[1]]))
    return (_narrow(widths, one), _narrow(widths, other))


def plan_with(land, lot):
    """A plan, in its form, of the least width of those in which a lot stands."""
    widths = _widths(land)
    mask = mask_of(lot)
    rest = mask ^ _whole(land)
    if rest == 0:
        return _narrow(widths, mask)
    return formed((_narrow(widths, mask), _narrow(widths, rest)))


def _links(land):
    """The list with, for each shire, the mask of its neighbours."""
    return links_over(land[0], land[1])


def plans_by_neighbours(land, k):
    """How many of the plans of a width below k join lots between which a border leads alone."""
    outer = _outer_by_mask(land)
    links = _links(land)
    beside = [0] * len(outer)
    for mask in range(1, len(outer)):
        # What is beside all but the least shire, and what is beside this one.
        beside[mask] = beside[mask & (mask - 1)] | links[(mask & -mask).bit_length() - 1]
    return _counts([length < k for length in outer], beside)[-1]


def plans_in_pieces(land, k):
    """How many of the plans of a width below k have each of their lots, and the rest of each, in one piece."""
    outer = _outer_by_mask(land)
    links = _links(land)
    linked = [len(mask_pieces(links, mask)) < 2 for mask in range(len(outer))]
    # The last mask has all shires; less another mask it is the rest.
    rests = linked[::-1]
    stands = [outer[mask] < k and linked[mask] and rests[mask] for mask in range(len(outer))]
    return _counts(stands, [_whole(land)] * len(outer))[-1]
