"""Promises 3.1, 3.2 and 3.3, and of 0.2 (a): given seats are right by a price, or a seat should go over."""

import unittest

from benchdeal.dealing import dealt
from benchdeal.pricing import is_strict, over, price
from reckoning import (
    EDGE_SCALES, EDGE_VOTES, EVERY_SCALE, Numbers, asked, every_given, excess, keeps, kind, many_deals, many_votes,
    moved, should_go_over, strict,
)


class Pricing(unittest.TestCase):
    def assert_price(self, votes, given, scale, told):
        self.assertEqual(kind(told), ("tuple", "int", "int"))
        self.assertGreaterEqual(told[1], 1)
        self.assertTrue(keeps(votes, given, scale, told))

    def assert_pair(self, votes, given, scale, told):
        self.assertEqual(kind(told), ("tuple", "int", "int"))
        one, other = told
        self.assertIn(one, range(len(votes)))
        self.assertIn(other, range(len(votes)))
        self.assertGreater(given[one], 0)
        self.assertGreater(excess(votes, given, scale, one, other), 0)

    def assert_right(self, votes, given, scale):
        with self.subTest(votes=votes, given=given, scale=scale):
            self.assertIs(asked(self, over, votes, given, scale), None)
            self.assert_price(votes, given, scale, asked(self, price, votes, given, scale))

    def assert_wrong(self, votes, given, scale):
        with self.subTest(votes=votes, given=given, scale=scale):
            self.assertIs(asked(self, price, votes, given, scale), None)
            self.assert_pair(votes, given, scale, asked(self, over, votes, given, scale))
            self.assertIs(asked(self, is_strict, votes, given, scale), False)

    def assert_strict(self, expected, votes, given, scale):
        with self.subTest(votes=votes, given=given, scale=scale):
            self.assertIs(asked(self, is_strict, votes, given, scale), expected)

    def assert_told(self, votes, given, scale):
        """Right or not, and strict or not, as the claims of all pairs of lists have it."""
        if should_go_over(votes, given, scale):
            self.assert_wrong(votes, given, scale)
        else:
            self.assert_right(votes, given, scale)
        self.assert_strict(strict(votes, given, scale), votes, given, scale)


class WrittenTest(Pricing):
    """Answers reckoned by hand."""

    VOTES = (100000, 80000, 30000, 20000)

    def test_right(self):
        self.assert_right(self.VOTES, (4, 3, 1, 0), (1, 1))
        self.assert_right(self.VOTES, (3, 3, 1, 1), (1, 2))
        self.assert_right((5, 3, 2), (5, 3, 2), (1, 1))

    def test_wrong(self):
        self.assert_wrong(self.VOTES, (3, 3, 1, 1), (1, 1))
        self.assert_wrong(self.VOTES, (4, 3, 1, 0), (1, 2))
        self.assert_wrong(self.VOTES, (8, 0, 0, 0), (1, 1))
        self.assert_wrong((5, 3, 2), (2, 3, 5), (1, 1))

    def test_the_only_price(self):
        """Where claims are alike their price alone is kept."""
        upper, lower = price((2, 1), (2, 0), (1, 1))
        self.assertEqual(upper, lower)
        upper, lower = price((2, 1), (1, 1), (1, 1))
        self.assertEqual(upper, lower)
        upper, lower = price((3, 1), (1, 1), (2, 4))
        self.assertEqual(2 * upper, lower)

    def test_the_only_pair(self):
        self.assertEqual(over((5, 1), (0, 1), (1, 1)), (1, 0))
        self.assertEqual(over((1, 5), (1, 0), (1, 1)), (0, 1))
        self.assertEqual(over((9, 9, 5), (1, 0, 1), (1, 1)), (2, 1))
        self.assertEqual(over((5, 9, 9), (1, 0, 1), (1, 1)), (0, 1))

    def test_strict(self):
        self.assert_strict(True, self.VOTES, (4, 3, 1, 0), (1, 1))
        self.assert_strict(True, self.VOTES, (2, 2, 1, 0), (1, 2))
        self.assert_strict(False, self.VOTES, (3, 2, 1, 0), (1, 2))
        self.assert_strict(False, self.VOTES, (2, 2, 1, 1), (1, 2))
        self.assert_strict(True, self.VOTES, (3, 2, 1, 1), (1, 2))


class AlikeTest(Pricing):
    def test_both_sides_of_two(self):
        for votes, first, second in (((2, 1), (2, 0), (1, 1)), ((1, 2), (1, 1), (0, 2))):
            for given in (first, second):
                self.assert_right(votes, given, (1, 1))
                self.assert_strict(False, votes, given, (1, 1))

    def test_before_and_behind_them(self):
        for given in ((1, 0), (2, 1)):
            self.assert_right((2, 1), given, (1, 1))
            self.assert_strict(True, (2, 1), given, (1, 1))

    def test_every_way_to_give_alike_claims(self):
        for scale in EVERY_SCALE:
            for seats in range(1, 4):
                for given in every_given(4, seats):
                    votes = (1000000,) * 4
                    if max(given) > 1:
                        self.assert_wrong(votes, given, scale)
                    else:
                        self.assert_right(votes, given, scale)
                        self.assert_strict(False, votes, given, scale)
            self.assert_strict(True, (1000000,) * 4, (1,) * 4, scale)

    def test_strict_of_claims_that_differ_least(self):
        self.assert_strict(True, (1000000, 999999), (1, 0), (1, 1))
        self.assert_wrong((1000000, 999999), (0, 1), (1, 1))
        self.assert_strict(False, (1000000, 500000), (2, 0), (1, 1))
        self.assert_strict(True, (999999, 500000), (1, 1), (1, 1))
        self.assert_wrong((999999, 500000), (2, 0), (1, 1))

    def test_least_difference_at_most_seats(self):
        """A last claim and a next one differ by 1 divided by their marks, 597 and 607."""
        self.assert_wrong((983438, 999911), (60, 60), (7, 10))
        self.assert_wrong((999911, 983438), (60, 60), (7, 10))
        self.assert_right((983080, 999547), (60, 60), (7, 10))
        self.assert_strict(True, (983080, 999547), (60, 60), (7, 10))
        self.assert_right((597000, 607000), (60, 60), (7, 10))
        self.assert_strict(False, (597000, 607000), (60, 60), (7, 10))

    def test_great_claims_that_no_float_tells_apart(self):
        great = 10 ** 20
        self.assert_wrong((great, great + 1), (1, 0), (1, 1))
        self.assert_right((great, great + 1), (0, 1), (1, 1))
        self.assert_strict(True, (great, great + 1), (0, 1), (1, 1))
        self.assert_strict(False, (great, great), (0, 1), (1, 1))


class WithoutVotesTest(Pricing):
    def test_seat_of_a_list_without_votes_should_go_over(self):
        for scale in EDGE_SCALES:
            self.assert_wrong((0, 5), (1, 0), scale)
            self.assert_wrong((5, 0), (0, 1), scale)
            self.assert_wrong((5, 0), (60, 1), scale)
            self.assert_wrong((0, 1), (60, 60), scale)
            self.assert_wrong((1, 0, 1000000), (30, 1, 30), scale)

    def test_lists_without_votes_and_seats_are_right(self):
        for scale in EDGE_SCALES:
            for seats in (0, 1, 60):
                self.assert_right((0, 5), (0, seats), scale)
                self.assert_right((5, 0, 0), (seats, 0, 0), scale)
                self.assert_strict(True, (0, 5), (0, seats), scale)
                self.assert_strict(True, (5, 0, 0), (seats, 0, 0), scale)

    def test_no_list_has_votes(self):
        """Such votes may be picked; all claims are alike then, and the price 0 is kept."""
        for scale in EDGE_SCALES:
            self.assert_right((0, 0), (3, 1), scale)
            self.assert_strict(False, (0, 0), (3, 1), scale)
            self.assert_strict(True, (0, 0), (0, 0), scale)
            self.assert_strict(True, (0,), (1,), scale)


class EdgeTest(Pricing):
    def test_no_seats(self):
        for votes in EDGE_VOTES:
            for scale in EVERY_SCALE:
                self.assert_right(votes, (0,) * len(votes), scale)
                self.assert_strict(True, votes, (0,) * len(votes), scale)

    def test_one_list(self):
        for votes in ((1,), (1000000,)):
            for scale in EVERY_SCALE:
                for seats in (0, 1, 59, 60):
                    self.assert_right(votes, (seats,), scale)
                    self.assert_strict(True, votes, (seats,), scale)

    def test_most_seats_everywhere(self):
        for votes in EDGE_VOTES:
            for scale in EDGE_SCALES:
                self.assert_told(votes, (60,) * len(votes), scale)

    def test_somewhat_beyond_the_bounds(self):
        numbers = Numbers(31)
        for votes in ((3, 2, 1) * 4, (1000001, 7, 2000000), (5, 0, 3)):
            for scale in ((1, 1), (11, 1), (1, 11), (12, 15)):
                self.assert_right(votes, dealt(votes, 75, scale), scale)
                self.assert_told(votes, tuple(numbers.below(70) for own in votes), scale)


class EitherTest(Pricing):
    """There is a price or a pair, never both."""

    def test_every_way_to_give_few_seats(self):
        some = [votes for votes in EDGE_VOTES + many_votes(32, 20) if len(votes) <= 3]
        for votes in some:
            for scale in EDGE_SCALES:
                for seats in range(5):
                    for given in every_given(len(votes), seats):
                        self.assert_told(votes, given, scale)

    def test_dealt(self):
        for votes in EDGE_VOTES:
            for scale in EDGE_SCALES:
                for seats in (0, 1, 2, 3, 8, 59, 60):
                    given = dealt(votes, seats, scale)
                    self.assert_right(votes, given, scale)
                    self.assert_told(votes, given, scale)

    def test_many_dealt_and_one_seat_moved(self):
        for votes, seats, scale in many_deals(33, 250):
            given = dealt(votes, seats, scale)
            self.assert_right(votes, given, scale)
            for other in [given] + moved(given)[:12]:
                self.assert_told(votes, other, scale)

    def test_many_given(self):
        numbers = Numbers(34)
        for votes, seats, scale in many_deals(35, 400):
            for most in (1, 3, 60):
                self.assert_told(votes, tuple(numbers.from_to(0, most) for own in votes), scale)


if __name__ == "__main__":
    unittest.main()
