"""Tells of any thing whether it is votes, a scale or given seats."""

MOST_LISTS = 8
MOST_VOTES = 1000000
LEAST_ON_SCALE = 1
MOST_ON_SCALE = 10
MOST_SEATS = 60


def is_whole_within(thing, least, most):
    # Python counts True and False among the ints, the document does not.
    if isinstance(thing, bool) or not isinstance(thing, int):
        return False
    return least <= thing <= most


def are_wholes_within(thing, least, most):
    if not isinstance(thing, tuple):
        return False
    return all([is_whole_within(part, least, most) for part in thing])


def are_votes(thing):
    if not are_wholes_within(thing, 0, MOST_VOTES):
        return False
    return 1 <= len(thing) <= MOST_LISTS and max(thing) > 0


def is_scale(thing):
    return are_wholes_within(thing, LEAST_ON_SCALE, MOST_ON_SCALE) and len(thing) == 2


def are_given(thing, votes):
    return are_wholes_within(thing, 0, MOST_SEATS) and len(thing) == len(votes)
