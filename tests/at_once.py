"""A limit of time for tests, so that what is not told at once fails instead of running on."""

import signal
from contextlib import contextmanager

SECONDS = 20


def _give_up(number, frame):
    raise AssertionError(f"not told at once: it took more than {SECONDS} seconds")


@contextmanager
def at_once():
    before = signal.signal(signal.SIGALRM, _give_up)
    signal.alarm(SECONDS)
    try:
        yield
    finally:
        signal.alarm(0)
        signal.signal(signal.SIGALRM, before)
