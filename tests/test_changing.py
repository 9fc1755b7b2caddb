"""Promises 4.1, 4.2 and 4.3: whole shares, and votes as they would be otherwise."""

import itertools
import unittest
from fractions import Fraction

from benchdeal.changing import joined, more_votes, picked, shares
from reckoning import EDGE_VOTES, asked, kind, many_deals, many_votes


class Changing(unittest.TestCase):
    def assert_told(self, expected, ask, *handed_in):
        with self.subTest(ask=ask.__name__, handed_in=handed_in):
            told = asked(self, ask, *handed_in)
            self.assertEqual(told, expected)
            self.assertEqual(kind(told), ("tuple",) + ("int",) * len(expected))


class SharesTest(Changing):
    def test_ordinary(self):
        self.assert_told((3, 2, 1, 0), shares, (100000, 80000, 30000, 20000), 8)
        self.assert_told((5, 3, 2), shares, (5, 3, 2), 10)
        self.assert_told((4, 2, 1), shares, (5, 3, 2), 9)
        self.assert_told((1, 3), shares, (1, 2), 5)

    def test_just_whole_and_just_below(self):
        self.assert_told((1, 1), shares, (500000, 500000), 2)
        self.assert_told((0, 1), shares, (499999, 500001), 2)
        self.assert_told((59, 0), shares, (1000000, 1), 60)
        self.assert_told((60, 0), shares, (1000000, 0), 60)

    def test_times_before_divided(self):
        self.assert_told((30, 30), shares, (1, 1), 60)
        self.assert_told((20, 20, 20), shares, (1, 1, 1), 60)
        self.assert_told((7,) * 8, shares, (1000000,) * 8, 60)
        self.assert_told((7,) * 8, shares, (1000000,) * 8, 56)
        self.assert_told((6,) * 8, shares, (1000000,) * 8, 55)

    def test_one_list(self):
        for own in (1, 7, 1000000):
            for seats in (0, 1, 59, 60):
                self.assert_told((seats,), shares, (own,), seats)

    def test_no_seats(self):
        for votes in EDGE_VOTES:
            self.assert_told((0,) * len(votes), shares, votes, 0)

    def test_lists_without_votes(self):
        self.assert_told((0, 60), shares, (0, 5), 60)
        self.assert_told((60, 0), shares, (5, 0), 60)
        self.assert_told((0,) * 7 + (60,), shares, (0,) * 7 + (1,), 60)

    def test_no_list_has_votes(self):
        """Such votes may be picked, and nothing is refused."""
        for lists in range(1, 9):
            for seats in (0, 1, 60):
                self.assert_told((0,) * lists, shares, (0,) * lists, seats)

    def test_somewhat_beyond_the_bounds(self):
        self.assert_told((66, 33), shares, (2 * 10 ** 20, 10 ** 20), 100)
        self.assert_told((0, 1), shares, (10 ** 20 - 1, 10 ** 20 + 1), 2)
        self.assert_told((7,) * 9, shares, (3,) * 9, 70)

    def test_many_by_fractions(self):
        for votes in EDGE_VOTES:
            for seats in range(61):
                self.assert_shares_by_fractions(votes, seats)
        for votes, seats, scale in many_deals(41, 300):
            self.assert_shares_by_fractions(votes, seats)

    def assert_shares_by_fractions(self, votes, seats):
        expected = tuple(int(Fraction(own * seats, sum(votes))) for own in votes)
        self.assert_told(expected, shares, votes, seats)


class JoinedTest(Changing):
    def test_every_two_of_four(self):
        votes = (1, 20, 300, 4000)
        self.assert_told((21, 300, 4000), joined, votes, 0, 1)
        self.assert_told((301, 20, 4000), joined, votes, 0, 2)
        self.assert_told((4001, 20, 300), joined, votes, 0, 3)
        self.assert_told((1, 320, 4000), joined, votes, 1, 2)
        self.assert_told((1, 4020, 300), joined, votes, 1, 3)
        self.assert_told((1, 20, 4300), joined, votes, 2, 3)

    def test_two_lists(self):
        self.assert_told((12,), joined, (5, 7), 0, 1)
        self.assert_told((5,), joined, (5, 0), 0, 1)
        self.assert_told((5,), joined, (0, 5), 0, 1)
        self.assert_told((2000000,), joined, (1000000, 1000000), 0, 1)

    def test_lists_without_votes(self):
        self.assert_told((0, 5), joined, (0, 5, 0), 0, 2)
        self.assert_told((0, 5), joined, (0, 0, 5), 0, 1)

    def test_eight_lists(self):
        votes = (1, 2, 4, 8, 16, 32, 64, 1000000)
        self.assert_told((1000001, 2, 4, 8, 16, 32, 64), joined, votes, 0, 7)
        self.assert_told((1, 2, 4, 8, 16, 32, 1000064), joined, votes, 6, 7)
        self.assert_told((1, 2, 4, 24, 32, 64, 1000000), joined, votes, 3, 4)

    def test_many_by_numbers(self):
        for votes in EDGE_VOTES + many_votes(42, 30):
            for one, other in itertools.combinations(range(len(votes)), 2):
                expected = list(votes)
                expected[one] += expected.pop(other)
                self.assert_told(tuple(expected), joined, votes, one, other)


class PickedTest(Changing):
    def test_ordinary(self):
        votes = (1, 20, 300, 4000)
        self.assert_told((1,), picked, votes, (0,))
        self.assert_told((4000,), picked, votes, (3,))
        self.assert_told((1, 300), picked, votes, (0, 2))
        self.assert_told((20, 300, 4000), picked, votes, (1, 2, 3))
        self.assert_told(votes, picked, votes, (0, 1, 2, 3))

    def test_one_list(self):
        self.assert_told((7,), picked, (7,), (0,))

    def test_lists_without_votes(self):
        self.assert_told((0,), picked, (0, 5, 0), (0,))
        self.assert_told((0, 0), picked, (0, 5, 0), (0, 2))

    def test_every_pick(self):
        for votes in EDGE_VOTES:
            for count in range(1, len(votes) + 1):
                for some in itertools.combinations(range(len(votes)), count):
                    expected = tuple(own for one, own in enumerate(votes) if one in some)
                    self.assert_told(expected, picked, votes, some)


class MoreVotesTest(Changing):
    def test_ordinary(self):
        self.assert_told((6, 20, 300), more_votes, (1, 20, 300), 0, 5)
        self.assert_told((1, 25, 300), more_votes, (1, 20, 300), 1, 5)
        self.assert_told((1, 20, 305), more_votes, (1, 20, 300), 2, 5)

    def test_none_more(self):
        for votes in EDGE_VOTES:
            for one in range(len(votes)):
                self.assert_told(votes, more_votes, votes, one, 0)

    def test_from_none_to_most(self):
        self.assert_told((1000000, 1), more_votes, (0, 1), 0, 1000000)
        self.assert_told((1, 1000000), more_votes, (1, 999999), 1, 1)
        self.assert_told((1000000,), more_votes, (1,), 0, 999999)
        self.assert_told((1000000,) * 8, more_votes, (1000000,) * 7 + (0,), 7, 1000000)

    def test_somewhat_beyond_the_bounds(self):
        self.assert_told((1000001, 1), more_votes, (1000000, 1), 0, 1)

    def test_many_by_numbers(self):
        for votes in EDGE_VOTES + many_votes(43, 30):
            for one in range(len(votes)):
                for by in (1, 17, 1000000 - votes[one]):
                    expected = list(votes)
                    expected[one] += by
                    self.assert_told(tuple(expected), more_votes, votes, one, by)


if __name__ == "__main__":
    unittest.main()
