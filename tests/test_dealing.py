"""Promises 0.5 and 2.1: claims, and seats dealt by them."""

import unittest

from benchdeal.dealing import dealt, next_list, order_of
from reckoning import (
    EDGE_SCALES, EDGE_VOTES, EVERY_SCALE, Numbers, asked, best_list, best_of_all, changed, kind, many_deals,
    many_votes, seat_by_seat,
)


class Dealing(unittest.TestCase):
    def assert_dealt(self, votes, scale, order):
        """The order, and what follows from it for all three functions."""
        seats = len(order)
        given = tuple(order.count(one) for one in range(len(votes)))
        with self.subTest(votes=votes, scale=scale, seats=seats):
            self.assertEqual(asked(self, order_of, votes, seats, scale), order)
            self.assertEqual(asked(self, dealt, votes, seats, scale), given)
            if order:
                before = changed(given, order[-1], -1)
                self.assertEqual(asked(self, next_list, votes, before, scale), order[-1])

    def assert_each_dealt(self, votes, scale, order):
        for seats in range(len(order) + 1):
            self.assert_dealt(votes, scale, order[:seats])


class WrittenTest(Dealing):
    """Answers reckoned by hand."""

    def test_ordinary(self):
        votes = (100000, 80000, 30000, 20000)
        self.assert_each_dealt(votes, (1, 1), (0, 1, 0, 1, 0, 2, 1, 0))
        self.assert_each_dealt(votes, (1, 2), (0, 1, 0, 2, 1, 0, 3, 1))
        self.assert_each_dealt(votes, (2, 1), (0, 1, 0, 1, 0, 0, 1, 0))
        self.assert_each_dealt(votes, (1, 10), (0, 1, 2, 3, 0, 1, 0, 1))

    def test_scales_in_proportion_deal_alike(self):
        votes = (100000, 80000, 30000, 20000)
        self.assert_each_dealt(votes, (10, 10), (0, 1, 0, 1, 0, 2, 1, 0))
        self.assert_each_dealt(votes, (5, 10), (0, 1, 0, 2, 1, 0, 3, 1))
        self.assert_each_dealt(votes, (10, 5), (0, 1, 0, 1, 0, 0, 1, 0))

    def test_first_number_far_above_the_step(self):
        self.assert_each_dealt((12, 11), (10, 1), (0, 1, 0, 0, 1, 0))
        self.assert_each_dealt((3, 2), (10, 1), (0,) * 6 + (1, 0))

    def test_claims_that_differ_least(self):
        self.assert_each_dealt((999999, 1000000), (1, 1), (1, 0, 1, 0))
        self.assert_each_dealt((1000000, 999999), (1, 1), (0, 1, 0, 1))
        self.assert_each_dealt((500000, 999999), (1, 1), (1, 0, 1))
        self.assert_each_dealt((999999, 500000), (1, 1), (0, 1, 0))
        self.assert_each_dealt((499999, 999999), (1, 1), (1, 1, 0))

    def test_great_claims_that_no_float_tells_apart(self):
        """Votes somewhat beyond the bounds are dealt too."""
        self.assert_each_dealt((10 ** 20, 10 ** 20 + 1), (1, 1), (1, 0, 1, 0))
        self.assert_each_dealt((2 * 10 ** 20 + 1, 10 ** 20), (1, 1), (0, 0, 1))
        self.assert_each_dealt((10 ** 20, 2 * 10 ** 20 + 1), (1, 1), (1, 1, 0))


class AlikeTest(Dealing):
    def test_lesser_number_first(self):
        for scale in EVERY_SCALE:
            for lists in range(1, 9):
                for own in (1, 6, 1000000):
                    self.assert_dealt((own,) * lists, scale, tuple(range(lists)) * 2)

    def test_lesser_number_with_more_votes(self):
        self.assert_each_dealt((2, 1), (1, 1), (0, 0, 1, 0, 0, 1))
        self.assert_each_dealt((3, 1), (1, 2), (0, 0, 1, 0, 0, 0, 1))

    def test_lesser_number_with_fewer_votes(self):
        self.assert_each_dealt((1, 2), (1, 1), (1, 0, 1, 1, 0, 1))
        self.assert_each_dealt((1, 3), (1, 2), (1, 0, 1, 1, 1, 0, 1))

    def test_several_alike(self):
        self.assert_each_dealt((2, 3, 6), (1, 1), (2, 1, 2, 0, 2, 1, 2, 2, 0, 1, 2))

    def test_one_of_alike_ones_behind_a_better(self):
        self.assert_each_dealt((3, 3, 4, 4), (1, 1), (2, 3, 0, 1, 2, 3))


class WithoutVotesTest(Dealing):
    def test_have_no_seat(self):
        for scale in EVERY_SCALE:
            self.assert_dealt((0, 5), scale, (1,) * 60)
            self.assert_dealt((5, 0), scale, (0,) * 60)
            self.assert_dealt((0, 0, 1, 0), scale, (2,) * 60)
            self.assert_dealt((0,) * 7 + (1,), scale, (7,) * 60)
            self.assert_dealt((0, 1, 0, 1), scale, (1, 3) * 30)

    def test_no_list_has_votes(self):
        """Such votes may be picked: all claims are alike then."""
        for scale in EVERY_SCALE:
            for lists in range(1, 9):
                numbers = Numbers(lists)
                votes = (0,) * lists
                for given in (votes, (60,) * lists, tuple(numbers.below(61) for one in votes)):
                    told = asked(self, next_list, votes, given, scale)
                    self.assertEqual((told, kind(told)), (0, "int"))
                self.assert_dealt(votes, scale, (0,) * 60)


class EdgeTest(Dealing):
    def test_no_seats(self):
        for votes in EDGE_VOTES:
            for scale in EVERY_SCALE:
                self.assert_dealt(votes, scale, ())

    def test_one_list(self):
        for votes in ((1,), (1000000,)):
            for scale in EVERY_SCALE:
                for seats in (1, 2, 59, 60):
                    self.assert_dealt(votes, scale, (0,) * seats)

    def test_somewhat_beyond_the_bounds(self):
        for votes in ((3, 2, 1) * 4, (1000001, 7, 2000000), (5, 0, 3)):
            for scale in ((1, 1), (11, 1), (1, 11), (12, 15)):
                self.assert_dealt(votes, scale, seat_by_seat(votes, 75, scale)[0])

    def test_next_list_of_every_given(self):
        """Also of given seats that no dealing leads to."""
        numbers = Numbers(11)
        for votes in EDGE_VOTES:
            for scale in EDGE_SCALES:
                fixed = [(0,) * len(votes), (60,) * len(votes)]
                drawn = [tuple(numbers.one_of((0, 1, 2, 3, 59, 60)) for own in votes) for turn in range(6)]
                for given in fixed + drawn:
                    with self.subTest(votes=votes, scale=scale, given=given):
                        told = asked(self, next_list, votes, given, scale)
                        self.assertEqual(told, best_list(votes, given, scale))

    def test_next_list_of_one_with_most_seats(self):
        self.assertEqual(next_list((1000000, 16393), (60, 0), (1, 1)), 0)
        self.assertEqual(next_list((1000000, 16394), (60, 0), (1, 1)), 1)
        self.assertEqual(next_list((16393, 1000000), (0, 60), (1, 1)), 1)
        self.assertEqual(next_list((61, 1), (60, 0), (1, 1)), 0)
        self.assertEqual(next_list((1, 61), (0, 60), (1, 1)), 0)

    def test_next_list_of_claims_that_differ_least(self):
        """Their marks are 607 and 597, and the claims differ by 1 divided by both."""
        self.assertEqual(next_list((999911, 983438), (60, 59), (7, 10)), 0)
        self.assertEqual(next_list((983438, 999911), (59, 60), (7, 10)), 1)
        self.assertEqual(next_list((999547, 983080), (60, 59), (7, 10)), 1)
        self.assertEqual(next_list((983080, 999547), (59, 60), (7, 10)), 0)


class AgreeingTest(Dealing):
    def test_edges_with_claims_seat_by_seat(self):
        for votes in EDGE_VOTES:
            for scale in EDGE_SCALES:
                order = seat_by_seat(votes, 60, scale)[0]
                for seats in (0, 1, 2, 3, 17, 59, 60):
                    self.assert_dealt(votes, scale, order[:seats])

    def test_many_with_claims_seat_by_seat(self):
        for votes, seats, scale in many_deals(21, 300):
            self.assert_dealt(votes, scale, seat_by_seat(votes, seats, scale)[0])

    def test_many_with_the_best_of_all_claims(self):
        for votes, seats, scale in many_deals(22, 300):
            with self.subTest(votes=votes, scale=scale, seats=seats):
                order = order_of(votes, seats, scale)
                self.assertEqual(order, best_of_all(votes, seats, scale))

    def test_with_one_another_by_every_scale(self):
        for votes in many_votes(23, 4) + EDGE_VOTES[-3:]:
            for scale in EVERY_SCALE:
                order = order_of(votes, 60, scale)
                given = (0,) * len(votes)
                for seats in range(60):
                    self.assertEqual(next_list(votes, given, scale), order[seats])
                    given = changed(given, order[seats], 1)
                self.assertEqual(dealt(votes, 60, scale), given)
                self.assertEqual(order_of(votes, 31, scale), order[:31])


class KindTest(Dealing):
    def test_kinds(self):
        for votes in EDGE_VOTES:
            for scale in EDGE_SCALES:
                given = (0,) * len(votes)
                self.assertEqual(kind(next_list(votes, given, scale)), "int")
                for seats in (0, 1, 2, 60):
                    self.assertEqual(kind(dealt(votes, seats, scale)), ("tuple",) + ("int",) * len(votes))
                    self.assertEqual(kind(order_of(votes, seats, scale)), ("tuple",) + ("int",) * seats)


if __name__ == "__main__":
    unittest.main()
