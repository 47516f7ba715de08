"""Promise [4]: the answers, and whether they are so of pairs, by their fields as they stand."""

import copy
import unittest
from itertools import combinations_with_replacement

from helper import (
    GREAT, at_once, behind, lost_by_bits, small_pairs, some_pairs, tried_lost, tried_takings,
)
from manytimes import answers
from manytimes.answers import Answer, Lost, Won
from manytimes.pairs import most
from manytimes.playing import told


class ClassesTest(unittest.TestCase):
    def test_each_stands_straight_under_answer(self):
        self.assertEqual(Lost.__bases__, (Answer,))
        self.assertEqual(Won.__bases__, (Answer,))
        self.assertEqual(Answer.__bases__, (object,))

    def test_each_is_of_its_class_alone(self):
        self.assertIsInstance(Lost(), Answer)
        self.assertIsInstance(Won(0, 1), Answer)
        self.assertNotIsInstance(Lost(), Won)
        self.assertNotIsInstance(Won(0, 1), Lost)

    def test_each_defines_shows_itself(self):
        for kind in (Lost, Won):
            self.assertIn("shows", vars(kind))
            self.assertEqual(kind.__module__, "manytimes.answers")
            self.assertIs(getattr(answers, kind.__name__), kind)
        self.assertEqual(Answer.__module__, "manytimes.answers")

    def test_fields_as_made(self):
        for at, times in ((0, 1), (3, 7), (-1, 0), (GREAT, -GREAT)):
            for answer in (Won(at, times), Won(at=at, times=times), Won(times=times, at=at)):
                self.assertEqual((answer.at, answer.times), (at, times))
                self.assertEqual(vars(answer), {"at": at, "times": times})
        self.assertEqual(vars(Lost()), {})


class ShowsCase(unittest.TestCase):
    def check(self, answer, pairs, due):
        """That True or False is told, the right one, and that the pairs stay as they were."""
        before = list(pairs)
        self.assertIs(answer.shows(pairs), due)
        self.assertEqual(pairs, before)


class ToldTest(ShowsCase):
    def test_what_is_told_is_so(self):
        for pair in small_pairs(30):
            self.check(told([pair]), [pair], True)
        for count in (0, 1, 2, 3, 20, 100):
            for limit in (4, 20, 10 ** 9):
                for seed in range(10):
                    pairs = some_pairs(count, seed, limit)
                    self.check(told(pairs), pairs, True)

    def test_lost_of_all_small_pairs_by_all_plays(self):
        known = {}
        for count, limit in ((0, 1), (1, 30), (2, 9), (3, 5)):
            for pairs in combinations_with_replacement(small_pairs(limit), count):
                self.check(Lost(), list(pairs), tried_lost(pairs, known))

    def test_of_other_pairs_it_is_what_is_due_there(self):
        known = {}
        lists = [
            [], [(1, 1)], [(3, 2)], [(7, 2)], [(17, 5)], [(7, 2), (7, 2)], [(9, 1), (2, 1), (3, 1)], [(2, 7), (5, 3)],
        ]
        for pairs in lists:
            answer = told(pairs)
            for others in lists:
                if isinstance(answer, Lost):
                    due = tried_lost(others, known)
                else:
                    due = (
                        answer.at < len(others)
                        and answer.times <= len(tried_takings(others[answer.at]))
                        and tried_lost(behind(others, answer.at, answer.times), known)
                    )
                self.check(answer, others, due)

    def test_never_both(self):
        for pair in small_pairs(9):
            for other in small_pairs(6):
                pairs = [pair, other]
                won = any(
                    Won(at, times).shows(pairs) for at in range(2) for times in range(1, most(pairs[at]) + 1)
                )
                self.check(Lost(), pairs, not won)


class ByHandTest(ShowsCase):
    def test_each_place_and_each_taking_by_all_plays(self):
        known = {}
        for pairs in combinations_with_replacement(small_pairs(5), 3):
            pairs = list(pairs)
            for at in range(3):
                highest = len(tried_takings(pairs[at]))
                for times in range(-1, highest + 3):
                    due = 1 <= times <= highest and tried_lost(behind(pairs, at, times), known)
                    self.check(Won(at, times), pairs, due)

    def test_one_pair_each_taking_by_all_plays(self):
        known = {}
        for pair in small_pairs(30):
            highest = len(tried_takings(pair))
            for times in range(-2, highest + 3):
                due = 1 <= times <= highest and tried_lost(behind([pair], 0, times), known)
                self.check(Won(0, times), [pair], due)

    def test_several_takings_that_win(self):
        # One alone is told, but each of them is so.
        pairs = [(2, 1), (2, 1), (2, 1)]
        for at in range(3):
            self.check(Won(at, 1), pairs, True)

    def test_a_place_beyond_the_last(self):
        for pairs in ([], [(2, 1)], [(2, 1), (3, 2)], [(2, 1)] * 99, [(2, 1)] * 100):
            for beyond in (0, 1, 2, 100, GREAT):
                self.check(Won(len(pairs) + beyond, 1), pairs, False)

    def test_a_place_below_zero(self):
        # Counted from the end each of these would be a place where 1 wins.
        for count in (1, 3, 99):
            pairs = [(2, 1)] * count
            for at in range(count):
                self.check(Won(at, 1), pairs, True)
                self.check(Won(at - count, 1), pairs, False)
            self.check(Won(-count - 1, 1), pairs, False)
            self.check(Won(-GREAT, 1), pairs, False)

    def test_takings_one_the_most_one_more_and_none(self):
        for pair, winning in (
            ((7, 2), 2), ((2, 7), 2), ((6, 2), 2), ((17, 5), 2), ((5, 17), 2), ((2, 1), 1), ((9, 1), 8),
        ):
            for times in (1, winning, most(pair), most(pair) + 1, 0, -1, -winning, GREAT, -GREAT, 10 ** 6000):
                self.check(Won(0, times), [pair], times == winning)
                self.check(Won(1, times), [(4, 3), pair, (6, 6)], times == winning)

    def test_alike_numbers_have_no_taking_that_is_so(self):
        for number in (1, 2, 5, GREAT):
            for times in (-1, 0, 1, 2, number):
                self.check(Won(0, times), [(number, number)], False)

    def test_no_taking_of_a_pair_though_the_numbers_behind_would_be_lost(self):
        # Taken 0 times these are lost still, and taken 3 times nothing would be left of 6.
        self.check(Won(0, 0), [(3, 2)], False)
        self.check(Won(0, 0), [(7, 2), (7, 2)], False)
        self.check(Won(0, 3), [(6, 2)], False)

    def test_true_and_false_are_no_numbers(self):
        self.check(Won(False, 1), [(2, 1)], False)
        self.check(Won(0, True), [(2, 1)], False)
        self.check(Won(True, 1), [(1, 1), (2, 1)], False)

    def test_more_pairs_than_are_told_of(self):
        self.check(Lost(), [(7, 2)] * 102, True)
        self.check(Lost(), [(7, 2)] * 101, False)
        self.check(Won(100, 2), [(7, 2)] * 101, True)
        self.check(Won(101, 2), [(7, 2)] * 101, False)


class SetAnewTest(ShowsCase):
    def test_by_the_fields_as_they_stand_then(self):
        pairs = [(9, 1), (2, 1), (3, 1)]
        answer = told(pairs)
        self.check(answer, pairs, True)
        answer.times = 4
        self.check(answer, pairs, False)
        answer.times = 5
        self.check(answer, pairs, True)
        answer.at = 1
        self.check(answer, pairs, False)
        answer.at = -3
        self.check(answer, pairs, False)
        answer.at = 3
        self.check(answer, pairs, False)
        answer.at, answer.times = 0, 0
        self.check(answer, pairs, False)
        answer.times = 5
        self.check(answer, pairs, True)

    def test_an_answer_made_wrong_and_set_right(self):
        answer = Won(-GREAT, GREAT)
        self.check(answer, [(3, 3), (7, 2)], False)
        answer.at = 1
        self.check(answer, [(3, 3), (7, 2)], False)
        answer.times = 2
        self.check(answer, [(3, 3), (7, 2)], True)
        self.assertEqual((answer.at, answer.times), (1, 2))

    def test_asking_changes_no_field(self):
        answer = Won(0, 2)
        for pairs in ([], [(7, 2)], [(3, 2)]):
            answer.shows(pairs)
            self.assertEqual(vars(answer), {"at": 0, "times": 2})


class GreatTest(ShowsCase):
    def test_very_great_numbers(self):
        with at_once():
            for pairs in (
                [(GREAT, 1)], [(GREAT, 1), (1, GREAT)], [(GREAT, 7), (11, GREAT)], [(GREAT + 1, GREAT)],
                [(GREAT * GREAT, GREAT), (GREAT, 3)], some_pairs(100, 5, GREAT),
            ):
                self.check(told(pairs), pairs, True)
                self.check(Lost(), pairs, lost_by_bits(pairs))

    def test_the_taking_has_to_be_the_very_one(self):
        with at_once():
            self.check(Won(0, GREAT - 1), [(GREAT, 1)], True)
            self.check(Won(0, GREAT - 2), [(GREAT, 1)], False)
            self.check(Won(0, GREAT), [(GREAT, 1)], False)
            self.check(Won(0, GREAT - 6), [(1, GREAT), (6, 1)], True)
            self.check(Won(0, GREAT - 5), [(1, GREAT), (6, 1)], False)
            self.check(Won(GREAT, GREAT), [(1, GREAT), (6, 1)], False)


class HandedInTest(unittest.TestCase):
    def test_what_is_handed_in_stays_as_it_was(self):
        for pairs in ([], [(7, 2)], [(3, 3), (7, 2)], [(9, 1), (2, 1), (3, 1)]):
            before = copy.deepcopy(pairs)
            for answer in (Lost(), Won(0, 1), Won(0, 3), Won(1, 3), Won(0, 5), Won(-1, 1), Won(9, 9)):
                answer.shows(pairs)
                self.assertEqual(pairs, before)

    def test_argument_by_name(self):
        self.assertIs(Lost().shows(pairs=[(3, 2)]), True)
        self.assertIs(Won(0, 2).shows(pairs=[(7, 2)]), True)


if __name__ == "__main__":
    unittest.main()
