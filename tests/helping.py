"""What several test files need."""

import contextlib
import itertools
import signal

BIG = 10 ** 60 - 1


def all_rows(many):
    """Each list of rows that makes a net of so many makes, elders rising."""
    choices = []
    for make in range(many):
        choices.append([
            list(elders)
            for size in range(make + 1)
            for elders in itertools.combinations(range(make), size)
        ])
    return [list(rows) for rows in itertools.product(*choices)]


def small_nets(most):
    """Each net of one to so many makes."""
    return [
        tuple(tuple(elders) for elders in rows)
        for many in range(1, most + 1)
        for rows in all_rows(many)
    ]


def full_net(many):
    """The net in which each make has all the ones ahead as elders."""
    return tuple(tuple(range(make)) for make in range(many))


def line(many):
    """The net in which each make has the one ahead as its only elder."""
    return tuple(() if make == 0 else (make - 1,) for make in range(many))


@contextlib.contextmanager
def within(seconds):
    """Fail what takes longer, where it might have no end in time."""
    def stop(number, frame):
        raise AssertionError(f"took longer than {seconds} seconds")

    before = signal.signal(signal.SIGALRM, stop)
    signal.alarm(seconds)
    try:
        yield
    finally:
        signal.alarm(0)
        signal.signal(signal.SIGALRM, before)
