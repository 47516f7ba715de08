"""Promise [4]: what is told of pairs, and what [1] says of lists of pairs."""

import copy
import unittest
from itertools import combinations_with_replacement

from helper import (
    GREAT, at_once, behind, fibonacci, lost_by_bits, no_lists_of_pairs, small_pairs, some_pairs, tried_lost,
    tried_takings,
)
from manytimes import playing
from manytimes.answers import Lost, Won
from manytimes.errors import BadPairs, TimesError
from manytimes.pairs import most, worth
from manytimes.playing import told


class ToldCase(unittest.TestCase):
    def check(self, pairs, lost):
        """That the right one of the two is told, and, where it is Won, a taking that wins."""
        answer = told(pairs)
        self.assertIs(type(answer), Lost if lost else Won)
        if not lost:
            self.assertIs(type(answer.at), int)
            self.assertIs(type(answer.times), int)
            self.assertTrue(0 <= answer.at < len(pairs))
            self.assertTrue(1 <= answer.times <= most(pairs[answer.at]))
            self.assertIs(type(told(behind(pairs, answer.at, answer.times))), Lost)
        return answer


class SmallTest(ToldCase):
    def test_no_pairs_at_all(self):
        self.check([], True)

    def test_one_pair(self):
        for pair, at_most in (((2, 1), 1), ((1, 2), 1), ((6, 2), 2), ((9, 1), 8), ((1, 9), 8)):
            answer = self.check([pair], False)
            self.assertEqual((answer.at, answer.times), (0, at_most))
        for pair in ((3, 2), (2, 3), (8, 5), (100, 99), (1, 1), (7, 7)):
            self.check([pair], True)

    def test_a_taking_that_is_not_the_most(self):
        # Behind 3 times (2, 5) is left, which is worth 2; behind 2 times (7, 5), worth 0.
        answer = self.check([(17, 5)], False)
        self.assertEqual((answer.at, answer.times), (0, 2))
        answer = self.check([(5, 17)], False)
        self.assertEqual((answer.at, answer.times), (0, 2))

    def test_alike_pairs_alone_are_lost(self):
        for count in (1, 2, 3, 20, 100):
            self.check([(number, number) for number in range(1, count + 1)], True)

    def test_a_pair_twice_is_lost(self):
        for pair in small_pairs(12):
            self.check([pair, pair], True)
            self.check([pair, pair[::-1]], True)
            self.check([pair, pair, pair, pair], True)

    def test_a_pair_thrice_is_as_one(self):
        for pair in small_pairs(12):
            self.check([pair, pair, pair], worth(pair) == 0)

    def test_one_pair_that_wins_among_alike_ones(self):
        for at in range(5):
            pairs = [(3, 3)] * 4
            pairs.insert(at, (7, 2))
            self.assertEqual(self.check(pairs, False).at, at)

    def test_the_taking_may_be_of_any_place(self):
        # The worths are 1, 2 and 8: 8 alone can be brought to 3.
        for pairs, at in (
            ([(9, 1), (2, 1), (3, 1)], 0), ([(2, 1), (9, 1), (3, 1)], 1), ([(2, 1), (3, 1), (9, 1)], 2),
        ):
            answer = self.check(pairs, False)
            self.assertEqual((answer.at, answer.times), (at, 5))

    def test_one_pair_by_all_plays(self):
        known = {}
        for pair in small_pairs(60):
            self.check([pair], tried_lost([pair], known))

    def test_two_pairs_by_all_plays(self):
        known = {}
        for first in small_pairs(11):
            for second in small_pairs(11):
                self.check([first, second], tried_lost([first, second], known))

    def test_three_and_four_pairs_by_all_plays(self):
        known = {}
        for count, limit in ((3, 7), (4, 4)):
            for pairs in combinations_with_replacement(small_pairs(limit), count):
                if count == 3 and pairs[0][0] > pairs[0][1]:
                    continue
                self.check(list(pairs), tried_lost(pairs, known))

    def test_behind_each_taking_from_lost_pairs_stands_won(self):
        known = {}
        for pairs in combinations_with_replacement(small_pairs(6), 3):
            if tried_lost(pairs, known):
                self.check(list(pairs), True)
                for at, pair in enumerate(pairs):
                    for times in range(1, len(tried_takings(pair)) + 1):
                        self.check(behind(list(pairs), at, times), False)


class ManyTest(ToldCase):
    def test_some_twenty_and_a_hundred_pairs_bit_by_bit(self):
        for count in (1, 2, 3, 5, 20, 99, 100):
            for limit in (3, 10, 100, 10 ** 6, 10 ** 40):
                for seed in range(10):
                    pairs = some_pairs(count, seed, limit)
                    self.check(pairs, lost_by_bits(pairs))

    def test_a_hundred_pairs_that_are_lost(self):
        for limit in (10, 1000, 10 ** 40):
            half = some_pairs(50, 7, limit)
            pairs = half + [pair[::-1] for pair in reversed(half)]
            self.check(pairs, True)
            for at, times in ((0, 1), (49, 1), (99, 1)):
                if most(pairs[at]) > 0:
                    self.check(behind(pairs, at, times), False)

    def test_many_alike_worths_in_other_pairs(self):
        # Worths 1, 2 and 3 together are 0, whatever pairs have them.
        pairs = [(2, 1), (10, 4), (400, 100), (5, 3), (2, 5), (7, 2)]
        self.assertEqual([worth(pair) for pair in pairs], [1, 2, 3, 1, 2, 3])
        self.check(pairs, True)
        self.check(pairs[:3], True)
        self.check(pairs[:2], False)
        self.check(pairs + [(1, 1)] * 94, True)
        self.check([(1, 1)] * 94 + pairs[1:], False)

    def test_twenty_lost_pairs_and_each_taking_from_them(self):
        half = some_pairs(10, 3, 60)
        pairs = half + half
        self.check(pairs, True)
        for at, pair in enumerate(pairs):
            for times in range(1, most(pair) + 1):
                self.check(behind(pairs, at, times), False)


class GreatTest(ToldCase):
    def test_very_great_numbers(self):
        near, far = fibonacci(12000)
        with at_once():
            for pairs in (
                [(GREAT, 1)], [(1, GREAT)], [(GREAT, 7)], [(GREAT + 1, GREAT)], [(GREAT, GREAT)], [(2 * GREAT, GREAT)],
                [(GREAT, 1), (1, GREAT)], [(GREAT, 1), (GREAT - 1, 1)], [(GREAT, 1), (2, 1)], [(GREAT, 3), (7, GREAT)],
                [(near, far)], [(far, near), (GREAT, 1)], [(GREAT * GREAT, GREAT), (GREAT, 1)],
                [(3 ** 9000, 2 ** 9000), (3 ** 9000, 2 ** 14000), (GREAT, 11)],
            ):
                self.check(pairs, lost_by_bits(pairs))

    def test_the_taking_of_a_very_great_number_of_times(self):
        with at_once():
            answer = self.check([(10 ** 50000, 1)], False)
            self.assertEqual((answer.at, answer.times), (0, 10 ** 50000 - 1))
            answer = self.check([(1, 10 ** 50000), (6, 1)], False)
            self.assertEqual((answer.at, answer.times), (0, 10 ** 50000 - 6))

    def test_each_form_of_what_is_left_with_very_great_numbers(self):
        # The greater pair is to be brought to the worth of the lesser one, all of them.
        with at_once():
            for first, second in small_pairs(12):
                pair = (first * GREAT + second, second)
                for wanted in range(8):
                    self.check([(wanted + 1, 1), pair], False)
                    self.check([pair[::-1], (1, wanted + 1)], False)

    def test_a_hundred_pairs_with_very_great_numbers(self):
        with at_once():
            for seed in range(3):
                pairs = some_pairs(100, seed, GREAT)
                self.check(pairs, lost_by_bits(pairs))
            pairs = [(GREAT + at, 3 + at) for at in range(100)]
            self.check(pairs, lost_by_bits(pairs))
            self.check(pairs[:50] + pairs[:50], True)


class RefusedTest(unittest.TestCase):
    def test_what_is_no_list_of_pairs(self):
        for wrong in no_lists_of_pairs():
            with self.assertRaises(ValueError) as caught:
                told(wrong)
            self.assertIs(type(caught.exception), BadPairs)
            self.assertIsInstance(caught.exception, TimesError)

    def test_a_hundred_are_taken_and_one_more_is_not(self):
        self.assertIs(type(told([(1, 1)] * 100)), Lost)
        self.assertIs(type(told([(7, 2)] * 99)), Won)
        for pair in ((1, 1), (7, 2)):
            with self.assertRaises(BadPairs):
                told([pair] * 101)

    def test_very_great_numbers_are_refused_as_others_are(self):
        for wrong in ([(10 ** 6000, 0)], [(7, 2), (-(10 ** 6000), 1)], [10 ** 6000], 10 ** 6000, ((10 ** 6000, 1),)):
            with self.assertRaises(BadPairs):
                told(wrong)

    def test_a_pair_alone_is_no_list_of_pairs(self):
        for wrong in ((7, 2), [7, 2], ((7, 2), (5, 3))):
            with self.assertRaises(BadPairs):
                told(wrong)


class HandedInTest(unittest.TestCase):
    def test_what_is_handed_in_stays_as_it_was(self):
        for pairs in ([], [(7, 2)], [(3, 2)], [(9, 1), (2, 1), (3, 1)], some_pairs(100, 1, 10 ** 30)):
            before = copy.deepcopy(pairs)
            told(pairs)
            self.assertEqual(pairs, before)
        for wrong in ([[7, 2]], [(7, 2), None], ([7, 2],), {0: [7]}, [([7], 2)]):
            before = copy.deepcopy(wrong)
            with self.assertRaises(BadPairs):
                told(wrong)
            self.assertEqual(wrong, before)

    def test_the_list_is_not_kept(self):
        pairs = [(9, 1), (2, 1), (3, 1)]
        answer = told(pairs)
        pairs.clear()
        self.assertEqual((answer.at, answer.times), (0, 5))
        self.assertTrue(answer.shows([(9, 1), (2, 1), (3, 1)]))

    def test_what_is_told_is_new(self):
        for pairs in ([(7, 2)], [(3, 2)], []):
            self.assertIsNot(told(pairs), told(pairs))
        first, second = told([(7, 2)]), told([(7, 2)])
        first.at, first.times = 5, 5
        self.assertEqual((second.at, second.times), (0, 2))

    def test_home_and_arguments_by_name(self):
        self.assertEqual(told.__module__, "manytimes.playing")
        self.assertIs(playing.told, told)
        self.assertIs(type(told(pairs=[(3, 2)])), Lost)


if __name__ == "__main__":
    unittest.main()
