"""Whole shares of the seats, and votes as they would be otherwise."""


def shares(votes, seats):
    # Picked votes may be all 0; their shares are 0 then, whatever above 0 they are divided by.
    together = max(sum(votes), 1)
    return tuple([own * seats // together for own in votes])


def more_votes(votes, one, by):
    return votes[:one] + (votes[one] + by,) + votes[one + 1:]


def joined(votes, one, other):
    both = more_votes(votes, one, votes[other])
    return both[:other] + both[other + 1:]


def picked(votes, some):
    return tuple([votes[one] for one in some])
