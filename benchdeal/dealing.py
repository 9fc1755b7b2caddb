"""Deals seats among lists, seat by seat, each to the list with the best claim."""

from benchdeal.claims import is_greater, next_claim


def next_list(votes, given, scale):
    best = 0
    for one in range(1, len(votes)):
        # Of alike claims that of the lesser number is better, so a later list needs a greater one.
        if is_greater(next_claim(votes, given, scale, one), next_claim(votes, given, scale, best)):
            best = one
    return best


def order_of(votes, seats, scale):
    given = [0] * len(votes)
    order = []
    for turn in range(seats):
        one = next_list(votes, tuple(given), scale)
        given[one] += 1
        order.append(one)
    return tuple(order)


def dealt(votes, seats, scale):
    order = order_of(votes, seats, scale)
    return tuple([order.count(one) for one in range(len(votes))])
