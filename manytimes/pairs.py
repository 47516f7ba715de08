"""Pairs of numbers, their takings and their worths."""

from manytimes.errors import BadPair, BadTaking


def is_whole(value):
    """Whether this is a whole number."""
    # True and False are integers to Python, but no numbers here.
    return isinstance(value, int) and not isinstance(value, bool)


def is_above_zero(value):
    """Whether this is a whole number above 0."""
    return is_whole(value) and value > 0


def is_pair(value):
    """Whether this is a tuple of two whole numbers above 0."""
    if not isinstance(value, tuple) or len(value) != 2:
        return False
    first, second = value
    return is_above_zero(first) and is_above_zero(second)


def lesser_and_greater(pair):
    """The numbers of a pair, the lesser one first."""
    if not is_pair(pair):
        # The message names no number: Python refuses to write very great ones out.
        raise BadPair("a pair is a tuple of two whole numbers above 0")
    first, second = pair
    if first <= second:
        return first, second
    return second, first


def most(pair):
    """The most times that can be taken from a pair, 0 if none."""
    lesser, greater = lesser_and_greater(pair)
    # Something has to be left, so the last 1 of the greater number is not for taking.
    return (greater - 1) // lesser


def is_taking(pair, times):
    """Whether this is a taking of the pair."""
    # Asked for first, so that what is no pair is told before what is no taking.
    highest = most(pair)
    return is_above_zero(times) and times <= highest


def taken(pair, times):
    """The pair behind a taking, each number in its place."""
    if not is_taking(pair, times):
        raise BadTaking("a taking is a whole number from 1 to the most times of its pair")
    first, second = pair
    if first > second:
        return first - times * second, second
    return first, second - times * first


def worth(pair):
    """The least whole number from 0 on that no pair behind a taking of this one has."""
    lesser, greater = lesser_and_greater(pair)
    times, left = divmod(greater, lesser)
    # It is the whole part of greater/lesser - lesser/greater, that is, of
    # times + left/lesser - lesser/greater. What stands behind times is below 1 and
    # not below -1, so only its sign counts, and whole numbers tell that one exactly.
    if left * greater < lesser * lesser:
        return times - 1
    return times


def taking_to_worth(pair, wanted):
    """A taking behind which the pair has this worth, any one below its own."""
    lesser, greater = lesser_and_greater(pair)
    whole = greater // lesser
    # What is left of the greater number holds the lesser one as often as it is worth,
    # or once more; or it is below the lesser one, and then the most was taken.
    for times in (whole - wanted, whole - wanted - 1):
        if is_taking(pair, times) and worth(taken(pair, times)) == wanted:
            return times
    return most(pair)


def all_together(worths):
    """The worths bit by bit: a bit is set where an odd count of them has it."""
    together = 0
    for own in worths:
        together = together ^ own
    return together
