"""What is told of pairs: who is to take can win, and by which taking, or has lost."""

from manytimes.pairs import all_together, is_taking, is_whole, taken, worth


def is_lost(pairs):
    """Whether whoever is to take from these pairs can't win."""
    return all_together([worth(pair) for pair in pairs]) == 0


class Answer:
    """What is told of pairs."""


class Lost(Answer):
    """Whoever is to take can't win."""

    def shows(self, pairs):
        """Whether it is so of these pairs."""
        return is_lost(pairs)


class Won(Answer):
    """Behind a taking from the pair at a place, counted from 0, the other one can't win."""

    def __init__(self, at, times):
        self.at = at
        self.times = times

    def shows(self, pairs):
        """Whether it is so of these pairs, by the fields as they stand now."""
        at, times = self.at, self.times
        if not is_whole(at) or not 0 <= at < len(pairs):
            return False
        if not is_taking(pairs[at], times):
            return False
        behind = list(pairs)
        behind[at] = taken(pairs[at], times)
        return is_lost(behind)
