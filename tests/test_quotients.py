"""Promises [5] and [6]: rows of quotients, the pair of a row, and the fewest and most takings."""

import copy
import random
import unittest
from math import gcd

from helper import GREAT, NO_NUMBERS, NO_PAIRS, at_once, fibonacci, small_pairs, some_pairs, tried_takings
from manytimes import quotients as module
from manytimes.errors import BadPair, BadRow, TimesError
from manytimes.quotients import longest, pair_of, quotients, shortest

NO_ROWS = (
    None, True, False, 0, 1, 3, -3, 2.5, GREAT, "", "3", "32", b"32", object(), int, len, ..., 1j,
    (), (3,), (1,), (3, 2), {}, {3: 2}, {3, 2}, frozenset((3, 2)), range(2, 4), iter([3, 2]), bytearray(b"32"),
    [], [0], [-1], [-GREAT], [0, 2], [2, 0], [3, 0, 2], [3, -1, 2], [-3, 2], [3, -2], [0, 0], [3, 2, 0],
    [1, 1], [3, 1], [3, 2, 1], [1, 1, 1], [GREAT, 1], [2] * 999 + [1],
    [True], [False], [True, 2], [2, True], [3, True, 2], [3, False, 2], [True, True],
    [None], [3, None], [None, 3], ["3"], ["3", "2"], [3, "2"], [b"3"], [3.0], [3, 2.0], [3.0, 2], [1.0], [2.5],
    [float("inf")], [float("nan")], [[3]], [[3, 2]], [3, [2]], [(3, 2)], [(3,)], [{}], [object()], [2j], [3, ...],
    [2] * 1001, [1] * 1000 + [2], [GREAT] * 2000, [1] * 1001,
)

NO_COMMON = (*NO_NUMBERS, 0, -1, -2, -GREAT)


def row_by_taking(pair):
    """The row by taking the lesser number away, once after once, until nothing is left."""
    lesser, greater = sorted(pair)
    row = []
    while lesser:
        times = 0
        while greater >= lesser:
            greater -= lesser
            times += 1
        row.append(times)
        lesser, greater = greater, lesser
    return row


def tried_counts(pair, known):
    """The fewest and the most takings, by trying all of them to their end."""
    if pair not in known:
        counts = [tried_counts(other, known) for other in tried_takings(pair)]
        fewest = 1 + min(count[0] for count in counts) if counts else 0
        highest = 1 + max(count[1] for count in counts) if counts else 0
        known[pair] = (fewest, highest)
    return known[pair]


def some_row(count, seed, limit):
    """A row of so many numbers, the same one for the same seed."""
    chance = random.Random(seed)
    return [chance.randint(1, limit) for _ in range(count - 1)] + [chance.randint(2, limit + 1)]


class QuotientsTest(unittest.TestCase):
    def test_ordinary_pairs(self):
        for pair, row, common in (
            ((7, 2), [3, 2], 1), ((17, 5), [3, 2, 2], 1), ((14, 4), [3, 2], 2), ((3, 2), [1, 2], 1),
            ((100, 7), [14, 3, 2], 1), ((30, 12), [2, 2], 6), ((415, 93), [4, 2, 6, 7], 1), ((9, 1), [9], 1),
            ((6, 2), [3], 2), ((4, 2), [2], 2), ((2, 1), [2], 1),
        ):
            with self.subTest(pair=pair):
                self.assertEqual(quotients(pair), (row, common))
                self.assertEqual(quotients(pair[::-1]), (row, common))

    def test_of_like_numbers_one_alone(self):
        for number in (1, 2, 3, 6, 100, GREAT):
            self.assertEqual(quotients((number, number)), ([1], number))

    def test_one_number_goes_into_the_other(self):
        for lesser in (1, 2, 5, GREAT):
            for times in (2, 3, 10, GREAT):
                self.assertEqual(quotients((lesser * times, lesser)), ([times], lesser))
                self.assertEqual(quotients((lesser, lesser * times)), ([times], lesser))

    def test_all_small_pairs_by_taking(self):
        for pair in small_pairs(60):
            self.assertEqual(quotients(pair), (row_by_taking(pair), gcd(*pair)), pair)

    def test_the_row_does_not_change_with_a_common_number(self):
        for first, second in small_pairs(20):
            row, common = quotients((first, second))
            for times in (2, 3, 12, GREAT):
                self.assertEqual(quotients((first * times, second * times)), (row, common * times))

    def test_the_last_is_above_one_if_not_alone(self):
        for pair in small_pairs(40):
            row, _ = quotients(pair)
            self.assertTrue(all(number >= 1 for number in row))
            self.assertTrue(row == [1] or row[-1] > 1, pair)
            self.assertEqual(row == [1], pair[0] == pair[1])

    def test_tells_a_tuple_of_a_list_and_a_number(self):
        for pair in ((7, 2), (2, 7), (5, 5), (6, 2)):
            told = quotients(pair)
            self.assertIs(type(told), tuple)
            self.assertEqual(len(told), 2)
            self.assertIs(type(told[0]), list)
            self.assertEqual({type(number) for number in told[0]}, {int})
            self.assertIs(type(told[1]), int)

    def test_neighbours_in_the_row_of_sums_of_two(self):
        # All ones, but for the last, which a 1 would be no last one for.
        for count in (2, 3, 10, 100, 999, 1000):
            self.assertEqual(quotients(fibonacci(count)), ([1] * (count - 1) + [2], 1))

    def test_very_great_numbers(self):
        near, far = fibonacci(12000)
        with at_once():
            for pair, row, common in (
                ((GREAT, 1), [GREAT], 1), ((1, GREAT), [GREAT], 1), ((GREAT + 1, GREAT), [1, GREAT], 1),
                ((GREAT * GREAT + 1, GREAT), [GREAT, GREAT], 1), ((3 * GREAT, 2 * GREAT), [1, 2], GREAT),
                ((near, far), [1] * 11999 + [2], 1), ((far * 7, near * 7), [1] * 11999 + [2], 7),
                ((10 ** 50000, 1), [10 ** 50000], 1),
            ):
                self.assertEqual(quotients(pair), (row, common))
            for first, second in some_pairs(10, 1, GREAT):
                row, common = quotients((first, second))
                self.assertEqual(common, gcd(first, second))


class PairOfTest(unittest.TestCase):
    def test_ordinary_rows(self):
        for row, common, pair in (
            ([3, 2], 1, (7, 2)), ([3, 2, 2], 1, (17, 5)), ([3, 2], 2, (14, 4)), ([1, 2], 1, (3, 2)),
            ([14, 3, 2], 1, (100, 7)), ([2, 2], 6, (30, 12)), ([4, 2, 6, 7], 1, (415, 93)),
            ([1, 1, 1, 2], 1, (8, 5)),
        ):
            with self.subTest(row=row, common=common):
                self.assertEqual(pair_of(row, common), pair)

    def test_a_row_of_one_number(self):
        for number in (1, 2, 3, 9, GREAT):
            for common in (1, 2, 6, GREAT):
                self.assertEqual(pair_of([number], common), (number * common, common))

    def test_one_alone_is_of_like_numbers(self):
        for common in (1, 2, 7, GREAT):
            self.assertEqual(pair_of([1], common), (common, common))

    def test_a_pair_back_from_its_row_the_greater_number_first(self):
        for pair in small_pairs(40):
            self.assertEqual(pair_of(*quotients(pair)), (max(pair), min(pair)))

    def test_rows_to_a_pair_and_back(self):
        for count in (1, 2, 3, 10, 100, 999, 1000):
            for limit in (1, 2, 9, 10 ** 20):
                for seed in range(3):
                    row = some_row(count, seed, limit)
                    for common in (1, 12, GREAT):
                        pair = pair_of(row, common)
                        self.assertTrue(pair[0] > pair[1])
                        self.assertEqual(quotients(pair), (row, common))

    def test_very_great_numbers(self):
        with at_once():
            for row in ([GREAT], [GREAT, 2], [1, GREAT], [GREAT] * 20, [1] * 999 + [GREAT], [10 ** 50000]):
                for common in (1, GREAT):
                    self.assertEqual(quotients(pair_of(row, common)), (row, common))

    def test_all_ones_but_the_last(self):
        for count in (2, 10, 1000):
            near, far = fibonacci(count)
            self.assertEqual(pair_of([1] * (count - 1) + [2], 1), (far, near))

    def test_tells_a_tuple_of_numbers(self):
        told = pair_of([3, 2], 1)
        self.assertIs(type(told), tuple)
        self.assertEqual([type(number) for number in told], [int, int])


class BadRowTest(unittest.TestCase):
    def refused(self, row, common):
        with self.assertRaises(ValueError) as caught:
            pair_of(row, common)
        self.assertIs(type(caught.exception), BadRow)
        self.assertIsInstance(caught.exception, TimesError)

    def test_what_is_no_row(self):
        for wrong in NO_ROWS:
            for common in (1, 6, GREAT):
                self.refused(wrong, common)

    def test_a_wrong_number_at_any_place(self):
        for at in range(5):
            for wrong in (0, -1, True, False, None, "2", 2.0, [2], (2,), -GREAT):
                row = [3, 1, 4, 2, 5]
                row[at] = wrong
                self.refused(row, 1)

    def test_a_last_one_that_is_not_alone(self):
        for count in (1, 2, 5, 999):
            self.refused([2] * count + [1], 1)
            self.refused([1] * count + [1], 1)
            pair_of([1] * count + [2], 1)

    def test_a_thousand_are_taken_and_one_more_is_not(self):
        pair_of([2] * 1000, 1)
        self.refused([2] * 1001, 1)

    def test_what_is_no_common_number(self):
        for wrong in NO_COMMON:
            for row in ([1], [3], [3, 2], [2] * 1000):
                self.refused(row, wrong)

    def test_both_wrong(self):
        for wrong in NO_ROWS:
            for common in (0, -1, True, None, "1"):
                self.refused(wrong, common)


class TakingsTest(unittest.TestCase):
    def test_ordinary_pairs(self):
        for pair, fewest, highest in (
            ((7, 2), 2, 4), ((17, 5), 3, 6), ((6, 2), 1, 2), ((9, 1), 1, 8), ((3, 2), 2, 2), ((2, 1), 1, 1),
            ((8, 5), 4, 4), ((100, 7), 3, 18), ((14, 4), 2, 4), ((415, 93), 4, 18),
        ):
            with self.subTest(pair=pair):
                self.assertEqual((shortest(pair), longest(pair)), (fewest, highest))
                self.assertEqual((shortest(pair[::-1]), longest(pair[::-1])), (fewest, highest))

    def test_alike_numbers_have_none(self):
        for number in (1, 2, 3, 100, GREAT):
            self.assertEqual(shortest((number, number)), 0)
            self.assertEqual(longest((number, number)), 0)

    def test_all_small_pairs_by_all_takings(self):
        known = {}
        for pair in small_pairs(60):
            self.assertEqual((shortest(pair), longest(pair)), tried_counts(pair, known), pair)

    def test_great_ones_by_their_row(self):
        for count in (1, 2, 20, 1000):
            for limit in (1, 5, 10 ** 20):
                row = some_row(count, 4, limit)
                for common in (1, GREAT):
                    greater, lesser = pair_of(row, common)
                    for pair in ((greater, lesser), (lesser, greater)):
                        self.assertEqual(shortest(pair), count)
                        self.assertEqual(longest(pair), sum(row) - 1)

    def test_at_once_where_the_most_is_a_very_great_number(self):
        with at_once():
            for number in (GREAT, 10 ** 50000):
                self.assertEqual((shortest((number, 1)), longest((number, 1))), (1, number - 1))
                self.assertEqual((shortest((1, number)), longest((1, number))), (1, number - 1))
                self.assertEqual((shortest((number, number + 1)), longest((number + 1, number))), (2, number))
            near, far = fibonacci(12000)
            self.assertEqual((shortest((near, far)), longest((near, far))), (12000, 12000))

    def test_tells_numbers(self):
        for pair in ((7, 2), (2, 7), (5, 5), (6, 2)):
            self.assertIs(type(shortest(pair)), int)
            self.assertIs(type(longest(pair)), int)


class BadPairTest(unittest.TestCase):
    def test_what_is_no_pair_is_refused_by_all(self):
        for function in (quotients, shortest, longest):
            for wrong in NO_PAIRS:
                with self.assertRaises(ValueError) as caught:
                    function(wrong)
                self.assertIs(type(caught.exception), BadPair)
                self.assertIsInstance(caught.exception, TimesError)


class HandedInTest(unittest.TestCase):
    def test_a_row_handed_in_stays_as_it_was(self):
        for row in ([1], [3], [3, 2], [2] * 1000, [], [3, 1], [3, [2]], [[3], 2], [2] * 1001):
            before = copy.deepcopy(row)
            for common in (1, 6, 0, None):
                try:
                    pair_of(row, common)
                except BadRow:
                    pass
                self.assertEqual(row, before)

    def test_a_pair_handed_in_stays_as_it_was(self):
        for handed in ((17, 5), (5, 17), (3, 3), [6, 2], [], ([6], 2)):
            before = copy.deepcopy(handed)
            for function in (quotients, shortest, longest):
                try:
                    function(handed)
                except BadPair:
                    pass
                self.assertEqual(handed, before)

    def test_each_list_told_is_the_askers_own(self):
        for pair in ((7, 2), (5, 5), (6, 2), (GREAT, 7)):
            first, _ = quotients(pair)
            second, _ = quotients(pair)
            kept = list(second)
            self.assertIsNot(first, second)
            first.append(0)
            first[0] = -1
            self.assertEqual(second, kept)
            self.assertEqual(quotients(pair)[0], kept)

    def test_a_row_handed_in_is_not_kept(self):
        row = [3, 2]
        self.assertEqual(pair_of(row, 1), (7, 2))
        row[0] = 4
        self.assertEqual(pair_of(row, 1), (9, 2))
        told, _ = quotients((9, 2))
        self.assertIsNot(told, row)

    def test_home_and_arguments_by_name(self):
        for function in (quotients, pair_of, shortest, longest):
            self.assertEqual(function.__module__, "manytimes.quotients")
            self.assertIs(getattr(module, function.__name__), function)
        self.assertEqual(quotients(pair=(7, 2)), ([3, 2], 1))
        self.assertEqual(pair_of(row=[3, 2], common=1), (7, 2))
        self.assertEqual((shortest(pair=(7, 2)), longest(pair=(7, 2))), (2, 4))


if __name__ == "__main__":
    unittest.main()
