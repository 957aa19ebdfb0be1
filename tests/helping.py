"""What several test files need."""

import contextlib
import copy
import itertools
import signal
import unittest

from badbegins.errors import HuntError

BIG = 10 ** 60 - 1


def all_rows(many):
    """Each list of rows that makes a net of so many makes, elders rising."""
    choices = []
    for make in range(many):
        choices.append([
            list(elders)
            for size in range(make + 1)
            for elders in itertools.combinations(range(make), size)
        ])
    return [list(rows) for rows in itertools.product(*choices)]


def small_nets(most):
    """Each net of one to so many makes."""
    return [
        tuple(tuple(elders) for elders in rows)
        for many in range(1, most + 1)
        for rows in all_rows(many)
    ]


def full_net(many):
    """The net in which each make has all the ones ahead as elders."""
    return tuple(tuple(range(make)) for make in range(many))


def line(many):
    """The net in which each make has the one ahead as its only elder."""
    return tuple(() if make == 0 else (make - 1,) for make in range(many))


def comes(net, young, old):
    """Whether the young one comes of the old one, by going all ways."""
    return young == old or any(comes(net, elder, old) for elder in net[young])


def some_net(chance, most):
    """A net of up to so many makes, by chance."""
    share = chance.random()
    return tuple(
        tuple(elder for elder in range(make) if chance.random() < share)
        for make in range(chance.randint(1, most)))


def some_makes(chance, net, least=0):
    """Some makes of the net by chance, in any order, perhaps some twice."""
    many = chance.randint(least, len(net) + 2)
    return [chance.randrange(len(net)) for _ in range(many)]


def subsets(things):
    """Each tuple of some of these, in their order."""
    things = list(things)
    return [part for size in range(len(things) + 1) for part in itertools.combinations(things, size)]


def some_order(chance, net):
    """All makes of the net, each behind all its elders, by chance."""
    order = []
    while len(order) < len(net):
        order.append(chance.choice([
            make for make in range(len(net))
            if make not in order and set(net[make]) <= set(order)]))
    return order


def some_plan(chance, net, most):
    """A plan of the forms of 16, by chance."""
    if most == 0 or chance.random() < 0.3:
        return ("left", tuple(sorted(chance.sample(range(len(net)), chance.randint(0, len(net))))))
    return (
        "try", chance.randrange(len(net)),
        some_plan(chance, net, most - 1), some_plan(chance, net, most - 1))


def long_plan(tries, deep):
    """So many tries of make 1 within one another, behind one of the answers."""
    plan = ("left", (0,))
    for _ in range(tries):
        other = ("left", (1,))
        plan = ("try", 1, plan, other) if deep == "bad" else ("try", 1, other, plan)
    return plan


def paths_of(plan):
    """Each path with the tries that lead there and what is left, bad ones first."""
    if plan[0] == "left":
        return [((), (), plan[1])]
    return [
        ((answer, *path), (plan[1], *tried), makes)
        for answer, part in (("bad", plan[2]), ("good", plan[3]))
        for path, tried, makes in paths_of(part)
    ]


def led_with_lies(chance, net, plan, first, lies):
    """The makes tried and those left, badness begun there and at most so many trials lying."""
    tried, rest = [], plan
    while rest[0] == "try":
        tried.append(rest[1])
        bad = comes(net, rest[1], first)
        if lies > 0 and chance.random() < 0.5:
            bad, lies = not bad, lies - 1
        rest = rest[2] if bad else rest[3]
    return tried, rest[1]


@contextlib.contextmanager
def within(seconds):
    """Fail what takes longer, where it might have no end in time."""
    def stop(number, frame):
        raise AssertionError(f"took longer than {seconds} seconds")

    before = signal.signal(signal.SIGALRM, stop)
    signal.alarm(seconds)
    try:
        yield
    finally:
        signal.alarm(0)
        signal.signal(signal.SIGALRM, before)


def some_thing(chance, deep):
    """Anything at all, by chance."""
    if deep == 0 or chance.random() < 0.4:
        return chance.choice([
            "left", "try", "bad", "", "x" * 50, True, False, None, 0, 1, 2, -1, 10, BIG, -BIG, (), []])
    things = [some_thing(chance, deep - 1) for _ in range(chance.randint(0, 4))]
    return chance.choice([list, tuple])(things)


def within_one_another(kind, many, inner):
    """A thing so many times within lists, or tuples, of one thing each."""
    for _ in range(many):
        inner = kind([inner])
    return inner


def great_things():
    """Things at the bounds of what is told of anything."""
    return [
        "x" * 9000, " ~\n" * 3000, (0,) * 20000, [0] * 20000, (((),) * 20,) * 900, [None] * 20000,
        within_one_another(tuple, 60, 0), within_one_another(list, 60, "left"),
        within_one_another(tuple, 59, ()), BIG, -BIG,
    ]


class Asking(unittest.TestCase):
    def refused(self, kind, fields, call, *given):
        """Just this kind of refusal, where nothing that is handed in is changed."""
        before = copy.deepcopy(given)
        with self.assertRaises(HuntError) as held:
            call(*given)
        self.assertIs(type(held.exception), kind)
        self.assertEqual(vars(held.exception), fields)
        self.assertEqual(given, before)

    def told(self, call, *given):
        """What is told, where nothing that is handed in is changed."""
        before = copy.deepcopy(given)
        answer = call(*given)
        self.assertEqual(given, before)
        return answer
