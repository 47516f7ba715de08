"""Promises [2] and [3], and what [1] says of pairs, takings and of all that is handed in."""

import copy
import unittest
from fractions import Fraction
from math import floor

from helper import GREAT, NO_NUMBERS, NO_PAIRS, at_once, fibonacci, small_pairs, tried_takings
from manytimes import pairs
from manytimes.errors import BadPair, BadTaking, TimesError
from manytimes.pairs import all_together, most, taken, taking_to_worth, worth


def tried_worth(pair, known):
    """The worth by the words of [3] alone."""
    if pair not in known:
        behind = {tried_worth(other, known) for other in tried_takings(pair)}
        least = 0
        while least in behind:
            least += 1
        known[pair] = least
    return known[pair]


class MostTest(unittest.TestCase):
    def test_ordinary_pairs(self):
        for pair, times in (
            ((7, 2), 3), ((2, 7), 3), ((17, 5), 3), ((5, 17), 3), ((5, 3), 1), ((3, 5), 1), ((100, 7), 14),
        ):
            with self.subTest(pair=pair):
                self.assertEqual(most(pair), times)

    def test_alike_numbers_have_none(self):
        for number in (1, 2, 3, 6, 100, GREAT):
            self.assertEqual(most((number, number)), 0)

    def test_something_is_left_where_one_goes_into_the_other(self):
        for pair, times in (((6, 2), 2), ((2, 6), 2), ((4, 2), 1), ((2, 4), 1), ((100, 10), 9), ((21, 7), 2)):
            with self.subTest(pair=pair):
                self.assertEqual(most(pair), times)

    def test_one_number_is_one(self):
        for pair, times in (((2, 1), 1), ((1, 2), 1), ((9, 1), 8), ((1, 9), 8), ((1, 1), 0)):
            with self.subTest(pair=pair):
                self.assertEqual(most(pair), times)

    def test_all_small_pairs_by_trying(self):
        for pair in small_pairs(60):
            self.assertEqual(most(pair), len(tried_takings(pair)), pair)

    def test_tells_a_number(self):
        for pair in ((7, 2), (2, 7), (3, 3), (2, 1)):
            self.assertIs(type(most(pair)), int)

    def test_very_great_numbers(self):
        near, far = fibonacci(12000)
        with at_once():
            for pair, times in (
                ((GREAT, 1), GREAT - 1), ((1, GREAT), GREAT - 1), ((GREAT, 2), GREAT // 2 - 1),
                ((GREAT, 3), GREAT // 3), ((GREAT + 1, GREAT), 1), ((GREAT, GREAT + 1), 1),
                ((2 * GREAT, GREAT), 1), ((2 * GREAT + 1, GREAT), 2), ((2 * GREAT - 1, GREAT), 1),
                ((GREAT * GREAT, GREAT), GREAT - 1), ((GREAT, GREAT * GREAT + 1), GREAT), ((near, far), 1),
            ):
                self.assertEqual(most(pair), times)


class TakenTest(unittest.TestCase):
    def test_one_some_and_the_most(self):
        for pair, times, behind in (
            ((17, 5), 1, (12, 5)), ((17, 5), 2, (7, 5)), ((17, 5), 3, (2, 5)),
            ((5, 17), 1, (5, 12)), ((5, 17), 2, (5, 7)), ((5, 17), 3, (5, 2)),
            ((6, 2), 2, (2, 2)), ((2, 6), 2, (2, 2)), ((6, 2), 1, (4, 2)), ((5, 3), 1, (2, 3)), ((3, 5), 1, (3, 2)),
            ((9, 1), 8, (1, 1)), ((1, 9), 8, (1, 1)), ((9, 1), 3, (6, 1)), ((1, 2), 1, (1, 1)),
        ):
            with self.subTest(pair=pair, times=times):
                self.assertEqual(taken(pair, times), behind)

    def test_all_takings_of_all_small_pairs(self):
        for pair in small_pairs(30):
            told = [taken(pair, times) for times in range(1, most(pair) + 1)]
            self.assertEqual(told, tried_takings(pair), pair)

    def test_tells_a_new_tuple_of_numbers(self):
        pair = (17, 5)
        told = taken(pair, 2)
        self.assertIs(type(told), tuple)
        self.assertIsNot(told, pair)
        self.assertEqual([type(number) for number in told], [int, int])
        self.assertEqual(pair, (17, 5))

    def test_very_great_numbers(self):
        near, far = fibonacci(12000)
        with at_once():
            for pair, times, behind in (
                ((GREAT, 1), GREAT - 1, (1, 1)), ((1, GREAT), GREAT - 2, (1, 2)), ((GREAT, 1), 1, (GREAT - 1, 1)),
                ((GREAT + 1, GREAT), 1, (1, GREAT)), ((GREAT, GREAT + 1), 1, (GREAT, 1)),
                ((GREAT * GREAT + 7, GREAT), GREAT, (7, GREAT)), ((near, far), 1, (near, far - near)),
            ):
                self.assertEqual(taken(pair, times), behind)

    def test_takings_below_one_are_refused(self):
        for pair in ((17, 5), (5, 17), (6, 2), (9, 1), (1, 1), (GREAT, 3)):
            for times in (0, -1, -2, -3, -GREAT):
                with self.assertRaises(BadTaking):
                    taken(pair, times)

    def test_takings_above_the_most_are_refused(self):
        for pair in ((17, 5), (5, 17), (6, 2), (2, 6), (9, 1), (1, 9), (5, 4), (GREAT, 1), (GREAT, GREAT - 1)):
            for more in (1, 2, 100, GREAT, 10 ** 5000):
                with self.assertRaises(BadTaking):
                    taken(pair, most(pair) + more)

    def test_alike_numbers_have_no_taking(self):
        for number in (1, 2, 5, GREAT):
            for times in (-1, 0, 1, 2, number, True, None, "1"):
                with self.assertRaises(BadTaking):
                    taken((number, number), times)

    def test_what_is_no_number_is_no_taking(self):
        for pair in ((17, 5), (5, 17), (9, 1), (3, 3)):
            for times in NO_NUMBERS:
                with self.subTest(pair=pair, times=times):
                    with self.assertRaises(BadTaking):
                        taken(pair, times)

    def test_a_refused_taking_is_a_times_error_and_no_other(self):
        with self.assertRaises(ValueError) as caught:
            taken((6, 2), 3)
        self.assertIs(type(caught.exception), BadTaking)
        self.assertIsInstance(caught.exception, TimesError)


class WorthTest(unittest.TestCase):
    def test_ordinary_pairs(self):
        for pair, told in (
            ((1, 1), 0), ((2, 1), 1), ((3, 1), 2), ((9, 1), 8), ((3, 2), 0), ((5, 3), 1), ((8, 5), 0), ((5, 2), 2),
            ((7, 2), 3), ((6, 2), 2), ((4, 2), 1), ((17, 5), 3), ((13, 6), 1), ((100, 100), 0), ((100, 99), 0),
        ):
            with self.subTest(pair=pair):
                self.assertEqual(worth(pair), told)

    def test_all_small_pairs_by_the_words(self):
        known = {}
        for pair in small_pairs(80):
            self.assertEqual(worth(pair), tried_worth(pair, known), pair)

    def test_no_pair_behind_a_taking_has_it_and_each_lesser_one_is_there(self):
        for pair in small_pairs(40):
            behind = [worth(taken(pair, times)) for times in range(1, most(pair) + 1)]
            self.assertNotIn(worth(pair), behind)
            self.assertTrue(all(least in behind for least in range(worth(pair))), pair)

    def test_the_same_either_way_round(self):
        for first, second in small_pairs(40):
            self.assertEqual(worth((first, second)), worth((second, first)))
        for first, second in ((GREAT, 7), (GREAT + 1, GREAT), fibonacci(5000)):
            self.assertEqual(worth((first, second)), worth((second, first)))

    def test_tells_a_number(self):
        for pair in ((7, 2), (2, 7), (3, 3), (2, 1), (3, 2)):
            self.assertIs(type(worth(pair)), int)

    def test_very_great_numbers_by_the_whole_part_of_fractions(self):
        with at_once():
            for first, second in (
                (GREAT, 1), (GREAT, 2), (GREAT, 7), (GREAT + 1, GREAT), (GREAT, GREAT), (2 * GREAT, GREAT),
                (2 * GREAT - 1, GREAT), (2 * GREAT + 1, GREAT), (GREAT * GREAT, GREAT), (GREAT * GREAT + 1, GREAT),
                (GREAT * GREAT - 1, GREAT), (3 ** 9000, 2 ** 9000), (3 ** 9000, 2 ** 14000), (10 ** 300, 7 ** 200),
            ):
                told = floor(Fraction(first, second) - Fraction(second, first))
                self.assertEqual(worth((first, second)), told)
                self.assertEqual(worth((second, first)), told)

    def test_very_great_numbers_are_worth_what_they_are_a_multiple_of(self):
        known = {}
        with at_once():
            for first, second in small_pairs(20):
                told = worth((first * GREAT, second * GREAT))
                self.assertEqual(told, tried_worth((first, second), known), (first, second))

    def test_very_great_nearly_alike_numbers(self):
        with at_once():
            for number in (10 ** 200, GREAT, 10 ** 5000):
                self.assertEqual(worth((number, number)), 0)
                self.assertEqual(worth((number + 1, number)), 0)
                self.assertEqual(worth((number, number + 1)), 0)

    def test_fibonacci_numbers_take_turns_however_great(self):
        # Each has one taking alone, to the pair before it, from (1, 1), worth 0, on.
        with at_once():
            here, behind = 1, 1
            for count in range(12000):
                if count < 200 or count % 1000 < 4:
                    self.assertEqual(worth((behind, here)), count % 2, count)
                here, behind = behind, here + behind

    def test_a_very_great_most(self):
        with at_once():
            self.assertEqual(worth((GREAT, 1)), GREAT - 1)
            self.assertEqual(worth((1, GREAT)), GREAT - 1)
            self.assertEqual(worth((10 ** 100000, 1)), 10 ** 100000 - 1)
            self.assertEqual(worth((GREAT * 5 + 1, 5)), GREAT)
            self.assertEqual(worth((GREAT * 5, 5)), GREAT - 1)


class TakingToWorthTest(unittest.TestCase):
    def test_all_worths_below_that_of_all_small_pairs(self):
        for pair in small_pairs(50):
            for wanted in range(worth(pair)):
                self.assertEqual(worth(taken(pair, taking_to_worth(pair, wanted))), wanted, (pair, wanted))

    def test_very_great_numbers(self):
        with at_once():
            for pair in ((GREAT, 1), (1, GREAT), (GREAT, 7), (5 * GREAT + 3, 5), (GREAT * GREAT + 1, GREAT)):
                own = worth(pair)
                for wanted in (0, 1, 2, 3, own // 2, own - 3, own - 2, own - 1):
                    self.assertEqual(worth(taken(pair, taking_to_worth(pair, wanted))), wanted)


class AllTogetherTest(unittest.TestCase):
    def test_a_bit_is_set_where_an_odd_count_has_it(self):
        for worths, told in (
            ([], 0), ([0], 0), ([5], 5), ([5, 5], 0), ([5, 5, 5], 5), ([1, 2, 3], 0), ([1, 2, 4], 7), ([8, 1, 2], 11),
            ([GREAT, 1, GREAT], 1), ([GREAT, GREAT], 0),
        ):
            before = list(worths)
            self.assertEqual(all_together(worths), told)
            self.assertEqual(worths, before)


class BadPairTest(unittest.TestCase):
    def test_what_is_no_pair_is_refused_by_all(self):
        for function in (most, worth, lambda pair: taken(pair, 1)):
            for wrong in NO_PAIRS:
                with self.assertRaises(ValueError) as caught:
                    function(wrong)
                self.assertIs(type(caught.exception), BadPair)
                self.assertIsInstance(caught.exception, TimesError)

    def test_very_great_numbers_are_refused_as_others_are(self):
        for function in (most, worth, lambda pair: taken(pair, 1)):
            for wrong in ((10 ** 6000, 0), (-(10 ** 6000), 10 ** 6000), [10 ** 6000, 1], (10 ** 6000,), 10 ** 6000):
                with self.assertRaises(ValueError) as caught:
                    function(wrong)
                self.assertIs(type(caught.exception), BadPair)

    def test_no_pair_goes_before_no_taking(self):
        for wrong in NO_PAIRS:
            for times in (0, -1, 100, True, None, "1", 1.0, [], GREAT):
                with self.assertRaises(BadPair):
                    taken(wrong, times)


class HandedInTest(unittest.TestCase):
    def test_what_is_handed_in_stays_as_it_was(self):
        for handed in ((17, 5), (5, 17), (3, 3), [6, 2], [], {6: 2}, ([6], 2), (6, [2]), [[6], [2]]):
            for function in (most, worth, lambda pair: taken(pair, 1)):
                before = copy.deepcopy(handed)
                try:
                    function(handed)
                except TimesError:
                    pass
                self.assertEqual(handed, before)

    def test_a_taking_handed_in_stays_as_it_was(self):
        for times in ([1], {1: 1}, [[1]]):
            before = copy.deepcopy(times)
            with self.assertRaises(BadTaking):
                taken((6, 2), times)
            self.assertEqual(times, before)

    def test_nothing_is_kept_between_calls(self):
        pair = (17, 5)
        first = (most(pair), taken(pair, 2), worth(pair))
        taken((5, 17), 1)
        worth((9, 1))
        self.assertEqual((most(pair), taken(pair, 2), worth(pair)), first)

    def test_home_of_the_functions(self):
        for function in (most, taken, worth):
            self.assertEqual(function.__module__, "manytimes.pairs")
            self.assertIs(getattr(pairs, function.__name__), function)

    def test_arguments_by_name(self):
        self.assertEqual(most(pair=(7, 2)), 3)
        self.assertEqual(taken(pair=(7, 2), times=3), (1, 2))
        self.assertEqual(worth(pair=(7, 2)), 3)


if __name__ == "__main__":
    unittest.main()
