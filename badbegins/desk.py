"""A desk: rows of words told to a hunt by names, each answered with a text."""

from badbegins.books import best_plan
from badbegins.errors import NoName, NoRow
from badbegins.halves import halving_plan
from badbegins.hunts import Hunt
from badbegins.rounds import rounds_of
from badbegins.stands import makes_of
from badbegins.texts import net_in, prices_in, read_net, show_net, show_plan
from badbegins.trials import ANSWERS, against

WIDTHS = ("1", "2", "3")


def _back(desk):
    desk.hunt.back()
    return "ok"


def _told(desk):
    rows = [f"{desk.names[make]} {answer}" for make, answer in desk.hunt.told()]
    return ", ".join(rows) or "none"


def _known(desk):
    return ", ".join([f"{desk.names[make]} {many}" for make, many in desk.hunt.known()])


def _barred(desk):
    return " ".join([desk.names[make] for make in desk.hunt.barred()]) or "none"


def _next(desk):
    make = desk.hunt.next_make()
    return "none" if make is None else desk.names[make]


def _number(desk):
    return str(desk.hunt.number())


def _left(desk):
    makes = desk.hunt.left()
    return "open" if makes is None else " ".join([desk.names[make] for make in makes])


def _plan(desk):
    hunt = desk.hunt
    plan = best_plan(desk.net, hunt.known(), hunt.barred(), desk.lies, prices_in(desk.named))
    return show_plan(desk.named, plan)


def _halves(desk):
    plan = halving_plan(desk.net, makes_of(desk.hunt.known()), desk.hunt.barred())
    return show_plan(desk.named, plan)


def _net(desk):
    return show_net(desk.named)


# The rows of one word.
ROWS = {
    "back": _back,
    "told": _told,
    "known": _known,
    "barred": _barred,
    "next": _next,
    "number": _number,
    "left": _left,
    "plan": _plan,
    "halves": _halves,
    "net": _net,
}


class Desk:
    """A hunt by the text of a named net, to which rows are said."""

    def __init__(self, text, lies=0):
        self.named = read_net(text)
        self.names = [name for name, _, _ in self.named]
        self.net = net_in(self.named)
        self.lies = lies
        self.hunt = Hunt(self.net, lies, prices_in(self.named))

    def say(self, row):
        """The answer to the row, or a refusal."""
        if not isinstance(row, str):
            raise NoRow()
        match row.split(" "):
            case ["tell", name, answer]:
                return self._tell(name, answer)
            case ["why", name]:
                return self._why(name)
            case ["rounds", width]:
                return self._rounds(width)
            case [word]:
                return self._one_word(word)
            case _:
                raise NoRow()

    def _tell(self, name, answer):
        make = self._make_named(name)
        if answer not in ANSWERS:
            raise NoRow()
        self.hunt.tell(make, answer)
        return "ok"

    def _why(self, name):
        places = against(self.net, self.hunt.told(), self._make_named(name))
        return " ".join([str(place) for place in places]) or "none"

    def _rounds(self, width):
        if width not in WIDTHS:
            raise NoRow()
        makes = makes_of(self.hunt.known())
        return str(rounds_of(self.net, makes, int(width), self.hunt.barred()))

    def _one_word(self, word):
        if word not in ROWS:
            raise NoRow()
        action = ROWS[word]
        return action(self)

    def _make_named(self, name):
        if name not in self.names:
            raise NoName(name)
        return self.names.index(name)
