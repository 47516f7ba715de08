"""What the tests share: samples, plays tried by the document's words alone, and a limit of time."""

import random
import signal
from contextlib import contextmanager
from fractions import Fraction
from math import floor

SECONDS = 20

GREAT = 10 ** 3000

NO_PAIRS = (
    None, True, False, 0, 1, 6, -6, 2.5, GREAT, "", "62", "6,2", b"62", object(), int, len, ..., 1j,
    [], [6, 2], [6], [(6, 2)], {}, {6: 2}, {6, 2}, frozenset((6, 2)), range(1, 3), iter((6, 2)), bytearray(b"62"),
    (), (6,), (6, 2, 1), (6, 2, 2, 2), ((6, 2),), ((6, 2), (6, 2)), (6, (2,)), ((6,), 2), ([6], 2), (6, [2]),
    (0, 2), (6, 0), (0, 0), (-6, 2), (6, -2), (-6, -2), (-1, -1), (GREAT, 0), (0, GREAT), (-GREAT, 2), (GREAT, -1),
    (True, 2), (6, True), (True, True), (False, 2), (6, False), (1, True), (True, 1),
    ("6", 2), (6, "2"), ("6", "2"), (b"6", 2), (6, b"2"), (None, 2), (6, None), (None, None),
    (6.0, 2), (6, 2.0), (6.0, 2.0), (Fraction(6), 2), (6, Fraction(2)), (float("inf"), 2), (6, float("nan")),
    (6, 2j), ({}, 2), (6, {}), (6, object()),
)

NO_NUMBERS = (
    None, True, False, "1", "", b"1", 1.0, 1.5, float("nan"), float("inf"), Fraction(1), 1j, [], [1], (), (1,),
    {}, {1}, {1: 1}, object(), int, len, ..., range(1, 2),
)


def _give_up(number, frame):
    raise AssertionError(f"not told at once: it took more than {SECONDS} seconds")


@contextmanager
def at_once():
    """A limit of time, so that what is not told at once fails instead of running on."""
    before = signal.signal(signal.SIGALRM, _give_up)
    signal.alarm(SECONDS)
    try:
        yield
    finally:
        signal.alarm(0)
        signal.signal(signal.SIGALRM, before)


def fibonacci(count):
    """The number at this place of 1, 1, 2, 3, 5 .. and the one behind it."""
    here, behind = 1, 1
    for _ in range(count):
        here, behind = behind, here + behind
    return here, behind


def tried_takings(pair):
    """All pairs behind a taking, by taking the lesser number away until nothing would be left."""
    first, second = pair
    found = []
    if first > second:
        while first - second > 0:
            first -= second
            found.append((first, second))
    elif second > first:
        while second - first > 0:
            second -= first
            found.append((first, second))
    return found


def small_pairs(limit):
    return [(first, second) for first in range(1, limit + 1) for second in range(1, limit + 1)]


def behind(pairs, at, times):
    """The pairs behind a taking from the pair at this place."""
    first, second = pairs[at]
    after = (first - times * second, second) if first > second else (first, second - times * first)
    return [*pairs[:at], after, *pairs[at + 1:]]


def tried_lost(pairs, known):
    """Whether whoever is to take can't win, by trying all plays to their end."""
    # Neither the turn of the pairs nor that of their numbers changes who wins.
    key = tuple(sorted(tuple(sorted(pair)) for pair in pairs))
    if key not in known:
        known[key] = not any(
            tried_lost([*key[:at], after, *key[at + 1:]], known)
            for at, pair in enumerate(key)
            for after in tried_takings(pair)
        )
    return known[key]


def worth_by_fractions(pair):
    """The worth in the document's second form, by exact fractions."""
    lesser, greater = sorted(pair)
    return floor(Fraction(greater, lesser) - Fraction(lesser, greater))


def lost_by_bits(pairs):
    """Whether no bit is set in an odd count of the worths, one bit after the other."""
    worths = [worth_by_fractions(pair) for pair in pairs]
    while any(worths):
        if sum(own % 2 for own in worths) % 2 == 1:
            return False
        worths = [own // 2 for own in worths]
    return True


def some_pairs(count, seed, limit):
    """So many pairs with numbers up to the limit, the same ones for the same seed."""
    chance = random.Random(seed)
    return [(chance.randint(1, limit), chance.randint(1, limit)) for _ in range(count)]


def no_lists_of_pairs():
    """What is no list of 0 to 100 pairs."""
    # Two of these are no pairs, but lists of them.
    found = [wrong for wrong in NO_PAIRS if wrong not in ([], [(6, 2)])]
    found.extend([wrong] for wrong in NO_PAIRS)
    for at in range(4):
        for wrong in (None, True, 6, [6, 2], (6, 0), (-6, 2), (True, 2), (6, False), (6,), (6, 2, 1), (6.0, 2), ()):
            pairs = [(7, 2), (5, 5), (1, 9)]
            pairs.insert(at, wrong)
            found.append(pairs)
    found.extend([[(7, 2)] * at + [(7, 0)] + [(7, 2)] * (99 - at) for at in (0, 50, 99)])
    found.extend([[(7, 2)] * 101, [(1, 1)] * 101, [(1, 1)] * 102, [(GREAT, 7)] * 500])
    found.extend([((7, 2), (5, 5)), tuple([(7, 2)] * 100), {0: (7, 2)}, {(7, 2)}, iter([(7, 2)]), [[(7, 2)]]])
    return found
