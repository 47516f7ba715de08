"""Who wins from pairs, and by which taking."""

from manytimes.answers import Lost, Won
from manytimes.errors import BadPairs
from manytimes.pairs import all_together, is_pair, taking_to_worth, worth

MOST_PAIRS = 100


def is_list_of_pairs(value):
    """Whether this is a list of 0 to 100 pairs."""
    if not isinstance(value, list) or len(value) > MOST_PAIRS:
        return False
    return all(is_pair(pair) for pair in value)


def told(pairs):
    """A Won with a taking that wins, or a Lost."""
    if not is_list_of_pairs(pairs):
        raise BadPairs("pairs are a list of 0 to 100 tuples of two whole numbers above 0")
    worths = [worth(pair) for pair in pairs]
    together = all_together(worths)
    for at, own in enumerate(worths):
        # With this worth in the place of its own, all worths together are 0.
        wanted = own ^ together
        if wanted < own:
            return Won(at, taking_to_worth(pairs[at], wanted))
    return Lost()
