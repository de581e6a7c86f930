"""Lots of mixers, and families of lots."""

from itertools import combinations

from veilcount.copies import copied
from veilcount.errors import BadLots


def is_lot(lot, mixers):
    """Return whether a list has mixers only, in ascending order."""
    least = 0
    for mixer in lot:
        if mixer < least or mixer >= mixers:
            return False
        least = mixer + 1
    return True


def holders(lot, mixers):
    """Return the mixers that are not in a list of mixers, ascending."""
    return [mixer for mixer in range(mixers) if mixer not in lot]


def cover(one, other, mixers):
    """Return whether each mixer is in one of two lots."""
    return all([mixer in one or mixer in other for mixer in range(mixers)])


def covering_pair(family, mixers):
    """Return the places of the first two lots that cover all mixers, or None."""
    for first, one in enumerate(family):
        # A pair with an earlier lot has been tried with that lot as the first one.
        for second in range(first, len(family)):
            if cover(one, family[second], mixers):
                return first, second
    return None


def checked_family(family, mixers):
    """Return a copy of a list of lists, which must be a family."""
    for place, lot in enumerate(family):
        if not is_lot(lot, mixers):
            raise BadLots(place, None)
    pair = covering_pair(family, mixers)
    if pair is not None:
        raise BadLots(pair[0], pair[1])
    return copied(family)


def contains(lot, part):
    """Return whether a lot has all mixers of another one."""
    return all([mixer in lot for mixer in part])


def stage_of(lot, family):
    """Return the place of the first lot of the family that contains a lot, or None."""
    for place, other in enumerate(family):
        if contains(other, lot):
            return place
    return None


def is_inside(lot, family):
    """Return whether a lot of the family contains a lot."""
    return stage_of(lot, family) is not None


def greatest(family):
    """Return the lots that no other lot contains, in their order, equal ones once."""
    found = []
    for lot in family:
        if lot not in found and not _is_outgrown(lot, family):
            found.append(list(lot))
    return found


def _is_outgrown(lot, family):
    """Return whether a lot of the family has all mixers of a lot and more."""
    return any([len(other) > len(lot) and contains(other, lot) for other in family])


def lots_of(mixers, size):
    """Return all lots of a size, in the order of lists."""
    # No lot has such a size, and combinations fails for a size below 0 or far beyond the mixers.
    if size < 0 or size > mixers:
        return []
    return [list(lot) for lot in combinations(range(mixers), size)]
