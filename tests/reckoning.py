"""What the document says, reckoned anew by fractions, and many things to ask of."""

import copy
import itertools
from fractions import Fraction

EDGE_SCALES = ((1, 1), (1, 2), (2, 1), (10, 10), (1, 10), (10, 1))
EVERY_SCALE = tuple((first, step) for first in range(1, 11) for step in range(1, 11))

# One list and eight, votes of 0 and of 1000000, alike ones, and lists without votes also at number 0.
EDGE_VOTES = (
    (1,), (7,), (1000000,),
    (1, 1), (2, 1), (1, 2), (0, 5), (5, 0), (1000000, 1), (1, 1000000), (0, 1000000), (1000000, 999999),
    (0, 0, 7), (0, 7, 0), (7, 0, 0), (6, 3, 2), (2, 3, 6), (5, 3, 2),
    (100000, 80000, 30000, 20000), (60, 30, 20, 15, 12, 10),
    (1,) * 8, (1000000,) * 8, (0,) * 7 + (1,), (1000000,) + (0,) * 7, (0,) + (1000000,) * 7,
    (1000000, 1, 999999, 0, 500000, 2, 333333, 10), (1, 2, 3, 4, 5, 6, 7, 8), (840, 420, 280, 210, 168, 140, 120, 105),
)


class Numbers:
    """Numbers that look drawn at random, and are the same each time."""

    def __init__(self, start):
        self.state = start

    def below(self, bound):
        self.state = (self.state * 6364136223846793005 + 1442695040888963407) % 2 ** 64
        return (self.state >> 33) % bound

    def from_to(self, least, most):
        return least + self.below(most - least + 1)

    def one_of(self, some):
        return some[self.below(len(some))]


def some_votes(numbers, lists, most):
    votes = tuple(numbers.from_to(0, most) for one in range(lists))
    return votes if max(votes) else (1,) + votes[1:]


def many_votes(start, count):
    """Votes of 1 to 8 lists; small numbers, of which many claims are alike, and great ones."""
    numbers = Numbers(start)
    mosts = (2, 6, 12, 60, 1000, 1000000)
    return tuple(some_votes(numbers, numbers.from_to(1, 8), numbers.one_of(mosts)) for turn in range(count))


def many_deals(start, count):
    """Triples of votes, seats and scale."""
    numbers = Numbers(start)
    seats = (0, 1, 2, 3, 4, 5, 7, 10, 13, 20, 37, 59, 60)
    return tuple(
        (votes, numbers.one_of(seats), numbers.one_of(EVERY_SCALE + EDGE_SCALES * 10))
        for votes in many_votes(start + 1, count)
    )


def every_given(lists, seats):
    """Each way to give just so many seats to so many lists."""
    every = itertools.product(range(seats + 1), repeat=lists)
    return [given for given in every if sum(given) == seats]


def changed(given, one, by):
    return given[:one] + (given[one] + by,) + given[one + 1:]


def moved(given):
    """Each way to let one seat of the given ones go over to another list."""
    lists = range(len(given))
    return [
        changed(changed(given, one, -1), other, 1)
        for one in lists
        for other in lists
        if given[one] and one != other
    ]


def mark(scale, seats):
    first, step = scale
    return first + seats * step


def claim(votes, one, seats, scale):
    return Fraction(votes[one], mark(scale, seats))


def best_list(votes, given, scale):
    claims = [claim(votes, one, given[one], scale) for one in range(len(votes))]
    return claims.index(max(claims))


def seat_by_seat(votes, seats, scale):
    """The lists that have a seat each time, and the seats given in the end."""
    given = (0,) * len(votes)
    order = ()
    for turn in range(seats):
        one = best_list(votes, given, scale)
        given = changed(given, one, 1)
        order += (one,)
    return order, given


def best_of_all(votes, seats, scale):
    """The lists of the best claims among all that could count, by 0.5 alone, best first."""
    claims = [
        (-claim(votes, one, had, scale), one, had)
        for one in range(len(votes))
        for had in range(seats)
    ]
    return tuple(one for less, one, had in sorted(claims)[:seats])


def keeps(votes, given, scale, asked):
    """Whether given seats keep a price, by the words of 3.1."""
    cost = Fraction(asked[0], asked[1])
    for own, seats in zip(votes, given):
        if own > mark(scale, seats) * cost:
            return False
        if seats and own < mark(scale, seats - 1) * cost:
            return False
    return True


def excess(votes, given, scale, one, other):
    """How much greater the claim of other to a seat more is than that of one to its last."""
    return claim(votes, other, given[other], scale) - claim(votes, one, given[one] - 1, scale)


def every_excess(votes, given, scale):
    lists = range(len(votes))
    return [
        excess(votes, given, scale, one, other)
        for one in lists
        for other in lists
        if given[one] and one != other
    ]


def should_go_over(votes, given, scale):
    return any(more > 0 for more in every_excess(votes, given, scale))


def strict(votes, given, scale):
    return all(more < 0 for more in every_excess(votes, given, scale))


def kind(thing):
    """The kinds of a thing and of its parts: True is no whole number here."""
    if isinstance(thing, tuple):
        return (type(thing).__name__,) + tuple(kind(part) for part in thing)
    return type(thing).__name__


def asked(test, ask, *handed_in):
    """What is told, once it is seen that asking changes nothing and tells the same each time."""
    before = repr(handed_in)
    answer = ask(*handed_in)
    again = ask(*copy.deepcopy(handed_in))
    test.assertEqual(repr(again), repr(answer))
    test.assertEqual(repr(ask(*handed_in)), repr(answer))
    test.assertEqual(repr(handed_in), before)
    return answer
