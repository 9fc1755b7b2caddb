"""Promises 0.1, 0.2 (a) to (f) and 0.3: what holds for all votes and scales."""

import itertools
import unittest

from benchdeal.changing import joined, more_votes, picked, shares
from benchdeal.dealing import dealt, next_list, order_of
from benchdeal.pricing import is_strict, over, price
from benchdeal.things import are_given, are_votes, is_scale
from reckoning import (
    EDGE_SCALES, EDGE_VOTES, EVERY_SCALE, Numbers, changed, every_given, excess, keeps, many_deals, many_votes, moved,
)

# Each of them is dealt in the tests below: the edges by few scales, many votes by a scale each.
SEATS = (0, 1, 2, 3, 7, 20, 59, 60)
DEALS = many_deals(51, 500) + tuple(
    (votes, seats, scale) for votes in EDGE_VOTES for seats in SEATS for scale in EDGE_SCALES
)


class Whole(unittest.TestCase):
    def check_deals(self, check):
        for votes, seats, scale in DEALS:
            with self.subTest(votes=votes, seats=seats, scale=scale):
                check(votes, seats, scale)


class RightTest(Whole):
    """0.2 (a)"""

    def is_right(self, votes, given, scale):
        """Whether a price is told, once it is seen that it shows it, or else that a seat is told."""
        cost = price(votes, given, scale)
        pair = over(votes, given, scale)
        self.assertNotEqual(cost is None, pair is None)
        if pair is None:
            self.assertTrue(keeps(votes, given, scale, cost))
        else:
            self.assertGreater(given[pair[0]], 0)
            self.assertGreater(excess(votes, given, scale, *pair), 0)
        return pair is None

    def test_dealt_is_right(self):
        def check(votes, seats, scale):
            self.assertTrue(self.is_right(votes, dealt(votes, seats, scale), scale))

        self.check_deals(check)

    def test_any_given_are_right_or_not(self):
        numbers = Numbers(52)

        def check(votes, seats, scale):
            given = tuple(numbers.from_to(0, seats) for own in votes)
            self.is_right(votes, given, scale)

        self.check_deals(check)

    def test_where_no_claims_are_alike_nothing_else_is(self):
        some = [votes for votes in EDGE_VOTES + many_votes(53, 25) if len(votes) <= 4]
        for votes in some:
            for scale in EDGE_SCALES:
                for seats in range(5):
                    with self.subTest(votes=votes, seats=seats, scale=scale):
                        self.assert_rights(votes, seats, scale)

    def assert_rights(self, votes, seats, scale):
        given = dealt(votes, seats, scale)
        rights = [one for one in every_given(len(votes), seats) if self.is_right(votes, one, scale)]
        self.assertIn(given, rights)
        for one in rights:
            # With alike claims a seat may as well go over, and then there are others that are right.
            self.assertIs(is_strict(votes, one, scale), rights == [given])

    def test_one_seat_moved(self):
        def check(votes, seats, scale):
            given = dealt(votes, seats, scale)
            rights = [one for one in moved(given) if self.is_right(votes, one, scale)]
            self.assertIs(is_strict(votes, given, scale), rights == [])

        self.check_deals(check)

    def test_a_seat_gone_over_again_and_again_ends_right(self):
        numbers = Numbers(54)
        for votes in EDGE_VOTES + many_votes(55, 40):
            for scale in EDGE_SCALES:
                given = tuple(numbers.from_to(0, 6) for own in votes)
                turns = 0
                while over(votes, given, scale) is not None and turns < 1000:
                    one, other = over(votes, given, scale)
                    given = changed(changed(given, one, -1), other, 1)
                    turns += 1
                self.assertTrue(self.is_right(votes, given, scale))
                if is_strict(votes, given, scale):
                    self.assertEqual(given, dealt(votes, sum(given), scale))


class SeatMoreTest(Whole):
    """0.2 (b)"""

    def test_each_has_what_it_had_and_one_has_one_more(self):
        def check(votes, seats, scale):
            given = dealt(votes, seats, scale)
            more = dealt(votes, seats + 1, scale)
            self.assertEqual(more, changed(given, next_list(votes, given, scale), 1))
            self.assertEqual(order_of(votes, seats + 1, scale)[:seats], order_of(votes, seats, scale))
            self.assertEqual(sum(given), seats)

        self.check_deals(check)


class VotesMoreTest(Whole):
    """0.2 (c)"""

    def assert_no_fewer(self, votes, seats, scale, one, by):
        given = dealt(votes, seats, scale)
        other = dealt(more_votes(votes, one, by), seats, scale)
        for place, (had, has) in enumerate(zip(given, other)):
            if place == one:
                self.assertGreaterEqual(has, had)
            else:
                self.assertLessEqual(has, had)

    def test_no_fewer_seats_and_no_other_more(self):
        numbers = Numbers(56)

        def check(votes, seats, scale):
            one = numbers.below(len(votes))
            room = 1000000 - votes[one]
            for by in (0, min(1, room), min(numbers.below(20), room), numbers.from_to(0, room), room):
                self.assert_no_fewer(votes, seats, scale, one, by)

        self.check_deals(check)


class PickedTest(Whole):
    """0.2 (d)"""

    def picks(self, lists, numbers):
        every = [some for count in range(1, lists + 1) for some in itertools.combinations(range(lists), count)]
        return every if len(every) < 8 else [numbers.one_of(every) for turn in range(8)]

    def test_by_themselves_they_have_the_same(self):
        numbers = Numbers(57)

        def check(votes, seats, scale):
            given = dealt(votes, seats, scale)
            for some in self.picks(len(votes), numbers):
                have = picked(given, some)
                self.assertEqual(dealt(picked(votes, some), sum(have), scale), have)

        self.check_deals(check)

    def test_picked_ones_stay_right_and_strict(self):
        numbers = Numbers(58)

        def check(votes, seats, scale):
            given = dealt(votes, seats, scale)
            for some in self.picks(len(votes), numbers):
                among = picked(votes, some), picked(given, some), scale
                self.assertIs(over(*among), None)
                if is_strict(votes, given, scale):
                    self.assertIs(is_strict(*among), True)

        self.check_deals(check)


class JoinedTest(Whole):
    """0.2 (e), its first half"""

    def assert_no_fewer(self, votes, seats, scale):
        given = dealt(votes, seats, scale)
        for one, other in itertools.combinations(range(len(votes)), 2):
            with self.subTest(votes=votes, seats=seats, scale=scale, one=one, other=other):
                together = dealt(joined(votes, one, other), seats, scale)
                self.assertGreaterEqual(together[one], given[one] + given[other])

    def test_where_first_is_not_below_the_step(self):
        for votes, seats, scale in DEALS:
            if scale[0] >= scale[1] and len(votes) > 1:
                self.assert_no_fewer(votes, seats, scale)

    def test_every_such_scale(self):
        for votes in many_votes(59, 3) + ((2, 1, 1), (6, 3, 2)):
            for scale in EVERY_SCALE:
                if scale[0] >= scale[1]:
                    self.assert_no_fewer(votes, 13, scale)

    def test_elsewhere_they_may_have_fewer(self):
        """The half would say nothing of the scale if it held everywhere."""
        self.assertEqual(dealt((1, 1, 9), 3, (1, 10)), (1, 1, 1))
        self.assertEqual(dealt(joined((1, 1, 9), 0, 1), 3, (1, 10)), (1, 2))


class ProportionTest(Whole):
    """0.2 (e), its second half"""

    def assert_dealt(self, given, times, scale):
        votes = tuple(seats * times for seats in given)
        with self.subTest(votes=votes, scale=scale):
            self.assertEqual(dealt(votes, sum(given), scale), given)
            self.assertEqual(shares(votes, sum(given)), given)

    def some_given(self, numbers):
        """Given seats, 1 to 60 together, among 1 to 8 lists."""
        lists = numbers.from_to(1, 8)
        given = (0,) * lists
        for turn in range(numbers.from_to(1, 60)):
            given = changed(given, numbers.below(numbers.from_to(1, lists)), 1)
        return given

    def test_where_first_is_not_above_the_step(self):
        numbers = Numbers(60)
        for scale in EVERY_SCALE:
            if scale[0] <= scale[1]:
                for turn in range(6):
                    given = self.some_given(numbers)
                    self.assert_dealt(given, numbers.from_to(1, 1000000 // max(given)), scale)

    def test_edges(self):
        for scale in ((1, 1), (1, 2), (10, 10), (1, 10)):
            for given in ((1,), (60,), (0, 60), (60, 0), (59, 1), (1, 59), (1,) * 8, (53,) + (1,) * 7, (0, 1, 0, 2)):
                for times in (1, 7, 1000000 // max(given)):
                    self.assert_dealt(given, times, scale)

    def test_elsewhere_they_may_be_dealt_others(self):
        self.assertEqual(dealt((3, 1), 4, (2, 1)), (4, 0))


class WholeShareTest(Whole):
    """0.2 (f)"""

    def test_at_least_the_whole_share(self):
        def check(votes, seats, scale):
            for had, share in zip(dealt(votes, seats, (1, 1)), shares(votes, seats)):
                self.assertGreaterEqual(had, share)

        self.check_deals(check)

    def test_elsewhere_it_may_be_less(self):
        self.assertEqual(shares((3, 1), 4), (3, 1))
        self.assertEqual(dealt((3, 1), 4, (10, 1)), (4, 0))


class AskedAgainTest(Whole):
    """0.3: whatever is asked in between, the same is told."""

    def all_told(self):
        return [
            (
                order_of(votes, seats, scale), dealt(votes, seats, scale), shares(votes, seats),
                price(votes, dealt(votes, seats, scale), scale), over(votes, (seats,) * len(votes), scale),
                is_strict(votes, dealt(votes, seats, scale), scale), next_list(votes, (seats,) * len(votes), scale),
                picked(votes, (0,)), more_votes(votes, 0, 1),
            )
            for votes, seats, scale in DEALS[:120]
        ]

    def test_the_same_is_told(self):
        before = repr(DEALS)
        self.assertEqual(repr(self.all_told()), repr(self.all_told()))
        self.assertEqual(repr(DEALS), before)


class ThingsTest(Whole):
    """0.4: what is asked of is votes and a scale, and what is told is given seats."""

    def test_dealt_are_given_seats(self):
        def check(votes, seats, scale):
            self.assertTrue(are_votes(votes) and is_scale(scale))
            self.assertTrue(are_given(dealt(votes, seats, scale), votes))

        self.check_deals(check)

    def test_changed_votes_are_votes(self):
        def check(votes, seats, scale):
            self.assertTrue(are_votes(more_votes(votes, 0, 1000000 - votes[0])))
            self.assertTrue(are_votes(picked(votes, (votes.index(max(votes)),))))
            self.assertEqual(are_votes(picked(votes, (0,))), votes[0] > 0)

        self.check_deals(check)


if __name__ == "__main__":
    unittest.main()
