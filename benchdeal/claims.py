"""Claims of lists to a seat, each a pair: the list's votes, and the mark that divides them."""


def mark_of(scale, seats):
    return scale[0] + seats * scale[1]


def next_claim(votes, given, scale, one):
    return (votes[one], mark_of(scale, given[one]))


def last_claim(votes, given, scale, one):
    return (votes[one], mark_of(scale, given[one] - 1))


def is_greater(claim, than):
    # Marks are above 0, so both sides may be multiplied by them, and nothing is lost to a division.
    return claim[0] * than[1] > than[0] * claim[1]
