"""Plans: what they cost at worst, their leaves, and going along them."""

from badbegins.heirs import heirs_of


def worst_of(plan, prices=None):
    """The most that the tries of the plan cost, whatever is answered."""
    if plan[0] == "left":
        return 0
    _, make, bad, good = plan
    return price_of(make, prices) + max(worst_of(bad, prices), worst_of(good, prices))


def leaves_of(plan):
    """Each path of answers to its end, with the makes left there."""
    if plan[0] == "left":
        return [((), plan[1])]
    leaves = []
    for answer in ("bad", "good"):
        leaves.extend([((answer, *path), makes) for path, makes in leaves_of(part_of(plan, answer))])
    return leaves


def followed(plan, answers):
    """The makes tried by these answers, the plan come to, and how many answers were taken."""
    tried = []
    rest = plan
    for answer in answers:
        if rest[0] == "left":
            break
        tried.append(rest[1])
        rest = part_of(rest, answer)
    return tried, rest, len(tried)


def led(net, plan, first):
    """The makes tried by true answers, badness begun at the first one, and the makes left."""
    heirs = heirs_of(net, first)
    tried = []
    rest = plan
    while rest[0] == "try":
        tried.append(rest[1])
        rest = part_of(rest, "bad" if rest[1] in heirs else "good")
    return tried, rest[1]


def part_of(plan, answer):
    """The plan to go on with behind this answer at a try."""
    return plan[2] if answer == "bad" else plan[3]


def price_of(make, prices):
    """What a trial of the make costs."""
    return 1 if prices is None else prices[make]
