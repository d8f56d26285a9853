"""Shires as the bits of an integer, a mask, and pieces of them: what is done so often that tuples would be slow."""


def mask_of(shires):
    """The mask of some unlike shires."""
    return sum([1 << s for s in shires])


def shires_in(mask):
    """The ascending tuple of the shires of a mask."""
    return tuple([s for s in range(mask.bit_length()) if mask >> s & 1])


def links_over(n, pairs):
    """The list with, for each of n shires, the mask of those to which some pairs of shires lead from it."""
    links = [0] * n
    for a, b in pairs:
        links[a] |= 1 << b
        links[b] |= 1 << a
    return links


def _piece_from(links, mask, seed):
    """The mask of all shires of a mask to which links lead from a shire of it, through shires of it alone."""
    piece = seed
    todo = seed
    while todo:
        bit = todo & -todo
        found = links[bit.bit_length() - 1] & mask & ~piece
        piece |= found
        todo = (todo ^ bit) | found
    return piece


def mask_pieces(links, mask):
    """The list of the masks of the pieces of the shires of a mask, by their least shires."""
    found = []
    while mask:
        piece = _piece_from(links, mask, mask & -mask)
        found.append(piece)
        mask ^= piece
    return found


def pieces_over(n, pairs, shires):
    """The ascending tuple of the pieces, ascending tuples, of some of n shires, by pairs that have both among them."""
    return tuple([shires_in(piece) for piece in mask_pieces(links_over(n, pairs), mask_of(shires))])
