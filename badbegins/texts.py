"""Texts of named nets, read and written, and of plans by names."""

from badbegins.errors import NoText
from badbegins.nets import MOST_MAKES, net_of

LETTERS = "abcdefghijklmnopqrstuvwxyz"
FIGURES = "0123456789"
MOST_LETTERS = 8
MOST_FIGURES = 31
# Words that stand for no make in the answers of a desk.
NO_NAMES = ("none", "open")


def read_net(text):
    """The named net that is written so."""
    if not isinstance(text, str):
        raise NoText(0)
    named = []
    for row, line in enumerate(text.split("\n")):
        words = line.split(" ")
        ahead = [one for one, _, _ in named]
        if row >= MOST_MAKES or not _is_row(words, ahead):
            raise NoText(row)
        name, price, *elders = words
        named.append((name, int(price), tuple(elders)))
    return named


def show_net(named):
    """The text of the named net."""
    return "\n".join([" ".join([name, str(price), *elders]) for name, price, elders in named])


def net_in(named):
    """The net of the named net, with the makes in its order."""
    places = {name: place for place, (name, _, _) in enumerate(named)}
    return net_of([[places[elder] for elder in elders] for _, _, elders in named])


def prices_in(named):
    """The prices of the named net, make by make."""
    return [price for _, price, _ in named]


def show_plan(named, plan):
    """The text of the plan, by the names of the makes."""
    return _shown([name for name, _, _ in named], plan)


def _shown(names, plan):
    if plan[0] == "left":
        return " ".join(["="] + [names[make] for make in plan[1]])
    _, make, bad, good = plan
    return f"{names[make]} ( {_shown(names, bad)} ) ( {_shown(names, good)} )"


def _is_row(words, ahead):
    if len(words) < 2:
        return False
    name, price, *elders = words
    if not _is_name(name) or name in ahead or not _is_price(price):
        return False
    return len(set(elders)) == len(elders) and all([elder in ahead for elder in elders])


def _is_name(word):
    if not 1 <= len(word) <= MOST_LETTERS or word in NO_NAMES:
        return False
    return all([sign in LETTERS for sign in word])


def _is_price(word):
    # The count goes first: Python does not turn thousands of figures into a number.
    if not 1 <= len(word) <= MOST_FIGURES or not all([sign in FIGURES for sign in word]):
        return False
    return word[0] != "0" and int(word) <= 10 ** 30
