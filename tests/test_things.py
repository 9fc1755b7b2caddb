"""Promises 0.3, 0.4 and 1.1: what votes, a scale and given seats are."""

import copy
import unittest

from benchdeal.things import are_given, are_votes, is_scale

# Each is no whole number within any bounds, though some of them equal one or hold one.
NO_WHOLES = (True, False, None, "", "1", "12", [], [1], (), (1,), (1, 1), [(1,)], ([1],))

# Each is no tuple of whole numbers at all.
NO_TUPLES = (
    0, 1, 2, 60, -1, 10 ** 30, True, False, None, "", "1", "11", "(1, 1)",
    [], [1], [1, 1], [5, 3, 2], [[1, 1]], [(1, 1)],
)


def nested(depth, kernel, innermost_is_list):
    """kernel within so many lists and tuples, by turns."""
    thing = kernel
    for level in range(depth):
        thing = [thing] if (level % 2 == 0) == innermost_is_list else (thing,)
    return thing


def deep_things():
    kernels = (1, 0, True, None, "text", (1, 1), [1, 1], (5, 3))
    return [
        nested(depth, kernel, innermost_is_list)
        for depth in (2, 3, 29, 30, 31, 35)
        for kernel in kernels
        for innermost_is_list in (True, False)
    ]


def replaced(parts, place, part):
    return parts[:place] + (part,) + parts[place + 1:]


def each_with(rights, wrongs):
    """Each of the right tuples, with each wrong part at each place."""
    return [
        replaced(right, place, wrong)
        for right in rights
        for place in range(len(right))
        for wrong in wrongs
    ]


def picture(thing):
    """repr tells 1 from True, which == does not."""
    return repr(thing)


class Asking(unittest.TestCase):
    def told(self, ask, thing, *more):
        """What is told, once it is seen that asking changes nothing and tells the same each time."""
        handed_in = copy.deepcopy((thing,) + more)
        before = picture(handed_in)
        answer = ask(*handed_in)
        self.assertIn(picture(answer), ("True", "False"))
        self.assertIs(ask(*handed_in), answer)
        self.assertIs(ask(thing, *more), answer)
        self.assertEqual(picture(handed_in), before)
        return answer

    def assert_all_told(self, expected, ask, some, *more):
        for thing in some:
            with self.subTest(thing=thing, more=more):
                self.assertIs(self.told(ask, thing, *more), expected)


class VotesTest(Asking):
    RIGHT = ((7,), (5, 3), (5, 3, 2), (1, 2, 3, 4, 5, 6, 7, 8))

    def test_ordinary(self):
        self.assert_all_told(True, are_votes, self.RIGHT)

    def test_one_list_and_eight(self):
        self.assert_all_told(True, are_votes, [(1,) * count for count in range(1, 9)])

    def test_no_list_nine_lists_and_more(self):
        self.assert_all_told(False, are_votes, [()] + [(1,) * count for count in (9, 10, 100)])

    def test_least_and_most_votes(self):
        self.assert_all_told(True, are_votes, [(1,), (1000000,), (999999,), (1000000,) * 8])
        self.assert_all_told(True, are_votes, each_with([(5, 3, 2)], (0, 1, 1000000)))

    def test_one_above_none_is_enough(self):
        self.assert_all_told(True, are_votes, each_with([(0,) * 2, (0,) * 8], (1, 1000000)))

    def test_all_none(self):
        self.assert_all_told(False, are_votes, [(0,) * count for count in range(1, 10)])

    def test_beyond_the_bounds(self):
        self.assert_all_told(False, are_votes, each_with(self.RIGHT, (-1, 1000001, -1000000, 10 ** 30, -10 ** 30)))

    def test_wrong_part_at_one_place(self):
        self.assert_all_told(False, are_votes, each_with(self.RIGHT, NO_WHOLES))

    def test_truths_alone(self):
        self.assert_all_told(False, are_votes, [(True,), (True, True), (0, True), (False, 1), (False, True)])

    def test_list_in_place_of_the_tuple(self):
        self.assert_all_told(False, are_votes, [list(right) for right in self.RIGHT])

    def test_no_tuples(self):
        self.assert_all_told(False, are_votes, NO_TUPLES)

    def test_deep(self):
        self.assert_all_told(False, are_votes, deep_things())
        self.assert_all_told(False, are_votes, each_with([(5, 3)], deep_things()))


class ScaleTest(Asking):
    RIGHT = ((1, 1), (1, 2), (10, 10), (1, 10), (10, 1), (5, 7))

    def test_every_scale(self):
        every = [(first, step) for first in range(1, 11) for step in range(1, 11)]
        self.assert_all_told(True, is_scale, every)

    def test_beyond_the_bounds(self):
        self.assert_all_told(False, is_scale, each_with(self.RIGHT, (0, 11, -1, -10, 10 ** 30)))
        self.assert_all_told(False, is_scale, [(0, 0), (11, 11), (0, 11), (11, 0)])

    def test_other_lengths(self):
        self.assert_all_told(False, is_scale, [(), (1,), (10,), (1, 1, 1), (1, 2, 3), (1,) * 8])

    def test_wrong_part_at_one_place(self):
        self.assert_all_told(False, is_scale, each_with(self.RIGHT, NO_WHOLES))

    def test_truths_alone(self):
        self.assert_all_told(False, is_scale, [(True, True), (True, 1), (1, True), (False, 1), (1, False)])

    def test_list_in_place_of_the_tuple(self):
        self.assert_all_told(False, is_scale, [list(right) for right in self.RIGHT])

    def test_no_tuples(self):
        self.assert_all_told(False, is_scale, NO_TUPLES)

    def test_deep(self):
        self.assert_all_told(False, is_scale, deep_things())
        self.assert_all_told(False, is_scale, each_with([(1, 2)], deep_things()))


class GivenTest(Asking):
    VOTES = ((7,), (5, 3), (5, 0, 2), (1, 2, 3, 4, 5, 6, 7, 1000000))

    def test_ordinary(self):
        for votes in self.VOTES:
            every = tuple(range(len(votes)))
            self.assert_all_told(True, are_given, each_with([every], (0, 1, 30, 59, 60)), votes)

    def test_none_and_most_everywhere(self):
        for votes in self.VOTES:
            self.assert_all_told(True, are_given, [(0,) * len(votes), (60,) * len(votes)], votes)

    def test_beyond_the_bounds(self):
        for votes in self.VOTES:
            some = each_with([(4,) * len(votes)], (61, -1, 62, -60, 10 ** 30, -10 ** 30))
            self.assert_all_told(False, are_given, some, votes)

    def test_other_lengths(self):
        for votes in self.VOTES:
            others = [(4,) * count for count in range(12) if count != len(votes)]
            self.assert_all_told(False, are_given, others, votes)

    def test_wrong_part_at_one_place(self):
        for votes in self.VOTES:
            self.assert_all_told(False, are_given, each_with([(1,) * len(votes)], NO_WHOLES), votes)

    def test_list_in_place_of_the_tuple(self):
        for votes in self.VOTES:
            self.assert_all_told(False, are_given, [[4] * len(votes), [0] * len(votes)], votes)

    def test_no_tuples(self):
        for votes in self.VOTES:
            self.assert_all_told(False, are_given, NO_TUPLES, votes)

    def test_text_as_long_as_votes(self):
        for votes in self.VOTES:
            self.assert_all_told(False, are_given, ["1" * len(votes)], votes)

    def test_deep(self):
        for votes in self.VOTES:
            self.assert_all_told(False, are_given, deep_things(), votes)
        self.assert_all_told(False, are_given, each_with([(4, 5)], deep_things()), (5, 3))

    def test_votes_somewhat_beyond_their_bounds(self):
        """Of the votes, only how many there are is asked."""
        for votes in ((0, 0), (1,) * 9, (1000001, 2)):
            self.assert_all_told(True, are_given, [(4,) * len(votes)], votes)
            self.assert_all_told(False, are_given, [(4,) * (len(votes) + 1)], votes)


if __name__ == "__main__":
    unittest.main()
