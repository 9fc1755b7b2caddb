"""Shows by a price that given seats are right, or tells a seat that should go over."""

from benchdeal.claims import is_greater, last_claim, next_claim
from benchdeal.dealing import next_list


def with_seats(given):
    return [one for one in range(len(given)) if given[one] > 0]


def over(votes, given, scale):
    # If any list should have the seat of one, then so should the list with the best claim.
    other = next_list(votes, given, scale)
    best = next_claim(votes, given, scale, other)
    for one in with_seats(given):
        if is_greater(best, last_claim(votes, given, scale, one)):
            return (one, other)
    return None


def price(votes, given, scale):
    if over(votes, given, scale) is not None:
        return None
    # No next claim is above the best one and no last claim is below it, so as a price all keep it.
    return next_claim(votes, given, scale, next_list(votes, given, scale))


def is_strict(votes, given, scale):
    for one in with_seats(given):
        last = last_claim(votes, given, scale, one)
        for other in range(len(votes)):
            if other != one and not is_greater(last, next_claim(votes, given, scale, other)):
                return False
    return True
