"""The refusals, all under one base, none under another one."""


class HuntError(ValueError):
    """Any refusal."""


class NoNet(HuntError):
    """Rows that are no net: by their first faulty make, or by their count (-1)."""

    def __init__(self, make):
        super().__init__(f"no net, by make {make}")
        self.make = make


class NoOrder(HuntError):
    """A list that is no order of a net's makes, by its first faulty place."""

    def __init__(self, place):
        super().__init__(f"no order of the net, by place {place}")
        self.place = place


class NoMake(HuntError):
    """A number that is no make of the net."""

    def __init__(self, make):
        super().__init__(f"no make of the net: {make}")
        self.make = make


class NoTrial(HuntError):
    """What is no trial by the net, by its place."""

    def __init__(self, place):
        super().__init__(f"no trial by the net, at place {place}")
        self.place = place


class NoTruth(HuntError):
    """Trials by which no make is possible: for each make some that speak against it."""

    def __init__(self, rows):
        super().__init__("no make is possible by the trials")
        self.rows = [list(row) for row in rows]


class NoPlan(HuntError):
    """What is no plan: the path to its first fault, and a word for it."""

    def __init__(self, path, word):
        super().__init__(f"no plan: {word}")
        self.path = path
        self.word = word


class NoBook(HuntError):
    """What is no book: a word for its first fault, and the place."""

    def __init__(self, word, place):
        super().__init__(f"no book: {word}, at place {place}")
        self.word = word
        self.place = place


class TooGreat(HuntError):
    """More than can be reckoned, by how many there are."""

    def __init__(self, many):
        super().__init__(f"too many to reckon: {many}")
        self.many = many


class NoText(HuntError):
    """What is no named net's text, by its first faulty row."""

    def __init__(self, row):
        super().__init__(f"no net's text, by row {row}")
        self.row = row


class NoName(HuntError):
    """A word that is no name of a make."""

    def __init__(self, name):
        super().__init__(f"no name of a make: {name}")
        self.name = name


class NothingTold(HuntError):
    """There is no trial to take back."""

    def __init__(self):
        super().__init__("no trial was told")


class NoRow(HuntError):
    """What is no row for a desk."""

    def __init__(self):
        super().__init__("no row for a desk")
