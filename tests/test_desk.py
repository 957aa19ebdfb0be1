"""Points 2, 3 and 35: a desk."""

import random
import unittest

from badbegins import desk as desk_file
from badbegins.books import best_plan
from badbegins.desk import Desk
from badbegins.errors import HuntError, NoName, NoRow, NoText, NoTruth, NothingTold, TooGreat
from badbegins.halves import halving_plan
from badbegins.hunts import Hunt
from badbegins.rounds import rounds_of
from badbegins.stands import known, makes_of
from badbegins.texts import net_in, prices_in, read_net, show_net, show_plan
from badbegins.trials import against, barred_by

from helping import BIG, Asking, comes, great_things, line, some_net, some_thing, within

TEXT = "base 1\nleft 2 base\nright 1 base\njoin 3 left right"
NAMES = ["base", "left", "right", "join"]
ONE_WORD = ("back", "told", "known", "barred", "next", "number", "left", "plan", "halves", "net")
ASKED = tuple(word for word in ONE_WORD if word != "back")
MOST = (10, 6, 4, 3)


def text_of(net, prices=None):
    """A text of the net: the makes are called a, b and so on, then za, zb and so on."""
    signs = "abcdefghijklmnopqrstuvwxy"
    names = list(signs) + ["z" + sign for sign in signs]
    return show_net([
        (names[make], 1 if prices is None else prices[make], tuple(names[elder] for elder in elders))
        for make, elders in enumerate(net)])


def all_said(desk):
    """What the desk answers to all rows that ask, a refusal in the place of what it refuses."""
    rows = []
    for row in (*ASKED, *["why " + name for name in desk_names(desk)], "rounds 1", "rounds 2", "rounds 3"):
        try:
            rows.append(desk.say(row))
        except HuntError as error:
            rows.append((type(error), vars(error)))
    return rows


def desk_names(desk):
    return [row.split(" ")[0] for row in desk.say("net").split("\n")]


def said_by_words(text, lies, trials):
    """The same, by the words of point 35 and the interface."""
    named = read_net(text)
    net, prices, names = net_in(named), prices_in(named), [name for name, _, _ in named]
    stand, barred = known(net, trials, lies), barred_by(net, trials)
    hunt = Hunt(net, lies, prices)
    for trial in trials:
        hunt.tell(*trial)
    make, left = hunt.next_make(), hunt.left()

    def tried(call):
        try:
            return call()
        except TooGreat as error:
            return TooGreat, vars(error)

    return [
        ", ".join(f"{names[tried]} {answer}" for tried, answer in trials) or "none",
        ", ".join(f"{names[one]} {many}" for one, many in stand),
        " ".join(names[one] for one in barred) or "none",
        "none" if make is None else names[make],
        tried(lambda: str(hunt.number())),
        "open" if left is None else " ".join(names[one] for one in left),
        tried(lambda: show_plan(named, best_plan(net, stand, barred, lies, prices))),
        show_plan(named, halving_plan(net, makes_of(stand), barred)),
        text,
        *[" ".join(map(str, against(net, trials, one))) or "none" for one in range(len(net))],
        *[tried(lambda: str(rounds_of(net, makes_of(stand), width, barred))) for width in (1, 2, 3)],
    ]


class DeskCase(Asking):
    def refused_unchanged(self, kind, fields, desk, row):
        before = all_said(desk)
        self.refused(kind, fields, desk.say, row)
        self.assertEqual(all_said(desk), before)

    def said(self, desk, *rows):
        for row, answer in rows:
            told = desk.say(row)
            self.assertEqual((row, told), (row, answer))
            self.assertIs(type(told), str)


class MadeTest(DeskCase):
    def test_defined_here(self):
        self.assertEqual(Desk.__module__, desk_file.__name__)
        self.assertIn("say", vars(Desk))

    def test_made_of_right_texts(self):
        for lies in range(4):
            self.assertEqual(Desk(TEXT, lies).say("net"), TEXT)
        self.assertEqual(Desk(TEXT, lies=2).say("known"), Desk(TEXT).say("known"))
        self.assertEqual(Desk("a 1").say("left"), "a")

    def test_refused_of_others(self):
        for row, text in (
            (0, ""), (0, "a"), (0, "a 0"), (0, "none 1"), (1, "a 1\n"), (1, "a 1\na 1"), (1, "a 1\nb 1 c"),
            (2, "a 1\nb 1 a\nc 1 a a"), (0, "a 1 "), (1, "a 1\nopen 1"), (40, text_of(line(40)) + "\nx 1"),
        ):
            for lies in range(4):
                self.refused(NoText, {"row": row}, Desk, text, lies)

    def test_refused_of_anything(self):
        for thing in (None, True, 0, BIG, (), [], [TEXT], (TEXT,), read_net(TEXT)):
            self.refused(NoText, {"row": 0}, Desk, thing)


class SaidTest(DeskCase):
    def test_at_first(self):
        self.said(
            Desk(TEXT), ("told", "none"), ("known", "base 0, left 0, right 0, join 0"), ("barred", "none"),
            ("next", "left"), ("number", "3"), ("left", "open"), ("why base", "none"), ("why join", "none"),
            ("plan", "left ( base ( = base ) ( = left ) ) ( right ( = right ) ( = join ) )"),
            ("halves", "left ( base ( = base ) ( = left ) ) ( right ( = right ) ( = join ) )"),
            ("rounds 1", "2"), ("rounds 2", "1"), ("rounds 3", "1"), ("net", TEXT))

    def test_told_and_taken_back(self):
        desk = Desk(TEXT)
        self.said(
            desk, ("tell left good", "ok"), ("known", "right 0, join 0"), ("number", "1"), ("next", "right"),
            ("why base", "0"), ("why left", "0"), ("why join", "none"),
            ("tell right cannot", "ok"), ("told", "left good, right cannot"), ("barred", "right"),
            ("next", "none"), ("left", "right join"), ("number", "0"),
            ("plan", "= right join"), ("halves", "= right join"), ("rounds 3", "0"),
            ("back", "ok"), ("told", "left good"), ("barred", "none"), ("left", "open"),
            ("tell right good", "ok"), ("left", "join"), ("next", "none"), ("why base", "0 1"),
            ("why right", "1"), ("plan", "= join"), ("back", "ok"), ("back", "ok"), ("told", "none"))

    def test_barred_ones_rise(self):
        self.said(
            Desk(TEXT), ("tell right cannot", "ok"), ("tell base cannot", "ok"), ("tell right cannot", "ok"),
            ("barred", "base right"), ("told", "right cannot, base cannot, right cannot"),
            ("left", "open"), ("next", "left"), ("number", "2"),
            ("plan", "left ( = base left ) ( = right join )"), ("rounds 1", "1"))

    def test_with_lies(self):
        self.said(
            Desk(TEXT, 1), ("tell left bad", "ok"), ("known", "base 0, left 0, right 1, join 1"),
            ("tell base good", "ok"), ("known", "base 1, left 0, right 1, join 1"), ("why base", "1"),
            ("why right", "0"), ("tell right good", "ok"), ("known", "left 0, join 1"), ("why right", "0 2"),
            ("why base", "1 2"), ("left", "open"), ("next", "left"),
            ("tell left good", "ok"), ("known", "left 1, join 1"), ("halves", "left ( = left ) ( = join )"))

    def test_prices_are_gone_by(self):
        self.said(Desk("a 3\nb 1 a\nc 1 b"), ("number", "4"), ("next", "a"))
        self.said(Desk("a 1\nb 5 a\nc 1 b"), ("number", "6"), ("next", "a"))
        great = 10 ** 30
        self.said(Desk(f"a {great}\nb {great} a"), ("number", str(great)), ("plan", "a ( = a ) ( = b )"))
        self.said(Desk(f"a {great}\nb {great} a", 3), ("number", str(7 * great)))

    def test_halves_as_for_no_lies(self):
        for lies in range(4):
            self.said(Desk("a 1\nb 1 a", lies), ("halves", "a ( = a ) ( = b )"))

    def test_names_that_are_words_of_rows(self):
        desk = Desk("tell 1\nback 1 tell\nbad 1 back\ngood 2 bad\ncannot 1 good\nrounds 1")
        self.said(
            desk, ("tell tell cannot", "ok"), ("tell bad bad", "ok"), ("known", "tell 0, back 0, bad 0"),
            ("barred", "tell"), ("why cannot", "1"), ("why tell", "none"), ("back", "ok"),
            ("tell rounds bad", "ok"), ("left", "rounds"), ("told", "tell cannot, rounds bad"))

    def test_each_row_by_chance(self):
        chance = random.Random(1)
        for _ in range(60):
            net, lies = some_net(chance, 8), chance.randint(0, 3)
            prices = chance.choice([None, [chance.randint(1, 30) for _ in net], [10 ** 30] * len(net)])
            text = text_of(net, prices)
            desk, trials = Desk(text, lies), []
            names = desk_names(desk)
            for _ in range(chance.randint(0, 7)):
                make, answer = chance.randrange(len(net)), chance.choice(["bad", "good", "cannot"])
                rows = [against(net, [*trials, (make, answer)], one) for one in range(len(net))]
                if chance.random() < 0.2 and trials:
                    self.said(desk, ("back", "ok"))
                    trials.pop()
                elif all(len(row) > lies for row in rows):
                    self.refused_unchanged(
                        NoTruth, {"rows": [row[:lies + 1] for row in rows]}, desk, f"tell {names[make]} {answer}")
                else:
                    self.said(desk, (f"tell {names[make]} {answer}", "ok"))
                    trials.append((make, answer))
            self.assertEqual(all_said(desk), said_by_words(text, lies, trials))

    def test_what_is_asked_changes_nothing(self):
        desk = Desk(TEXT, 1)
        desk.say("tell left bad")
        self.assertEqual([all_said(desk) for _ in range(3)], [all_said(desk)] * 3)

    def test_desks_are_each_their_own(self):
        one, other = Desk(TEXT), Desk(TEXT)
        one.say("tell left bad")
        self.assertEqual(all_said(other), all_said(Desk(TEXT)))


class NoRowTest(DeskCase):
    def no_row(self, desk, *rows):
        for row in rows:
            with self.subTest(row):
                self.refused_unchanged(NoRow, {}, desk, row)

    def test_no_text(self):
        self.no_row(Desk(TEXT), None, True, False, 0, 7, BIG, (), [], ["back"], ("told",), [["net"]])
        chance = random.Random(2)
        desk = Desk(TEXT)
        for thing in [some_thing(chance, 4) for _ in range(300)] + great_things():
            if thing not in ONE_WORD:
                self.refused(NoRow, {}, desk.say, thing)

    def test_none_of_those_listed(self):
        self.no_row(
            Desk(TEXT), "", " ", "  ", "\n", "hello", "base", "ok", "none", "open", "Back", "TOLD", "tells", "nex",
            "left\n", "\nleft", "left\n", "next\ntold", "back.", "~", "bad", "tell", "why", "rounds")

    def test_by_the_count_of_words(self):
        desk = Desk(TEXT)
        self.no_row(
            desk, "tell", "tell base", "tell base bad good", "tell  base bad", "tell base bad ", " tell base bad",
            "tell base  bad", "why", "why base left", "why base ", "why  base", " why base", "rounds", "rounds 1 2",
            "rounds 1 ", " rounds 1", "rounds  1", "tell none", "tell x", "why x y", "tell x y z")
        for word in ONE_WORD:
            self.no_row(desk, word + " ", " " + word, word + " base", word + " 1", word + "  ", word + " base bad")

    def test_words_without_signs(self):
        desk = Desk(TEXT)
        self.refused_unchanged(NoName, {"name": ""}, desk, "why ")
        self.refused_unchanged(NoName, {"name": ""}, desk, "tell  bad")
        self.refused_unchanged(NoName, {"name": ""}, desk, "tell  ")
        self.no_row(desk, "tell base ", "rounds ")

    def test_no_name(self):
        desk = Desk(TEXT)
        for name in ("x", "none", "open", "Base", "basee", "0", "1", "bad", "base\n", "ba", "base,", "~"):
            self.refused_unchanged(NoName, {"name": name}, desk, "why " + name)
            for answer in ("bad", "good", "cannot", "", "x", "base", "1"):
                self.refused_unchanged(NoName, {"name": name}, desk, f"tell {name} {answer}")

    def test_no_answer(self):
        desk = Desk(TEXT)
        self.no_row(desk, *["tell base " + word for word in (
            "Bad", "bad\n", "goods", "x", "base", "none", "can", "true", "1", "~")])
        # Behind it what the stages tell.
        self.said(desk, ("tell base bad", "ok"))
        self.no_row(desk, "tell base goods")
        self.refused_unchanged(NoTruth, {"rows": [[1], [0], [0], [0]]}, desk, "tell base good")

    def test_no_width(self):
        desk = Desk(TEXT)
        self.no_row(desk, *["rounds " + word for word in (
            "0", "4", "01", "-1", "+1", "1.0", "12", "1\n", "one", "x", "base", "~", "9" * 5000, "1_", "10")])
        # Ahead of what the stages tell.
        desk = Desk(text_of(line(40)))
        self.no_row(desk, "rounds 0", "rounds x")
        self.refused_unchanged(TooGreat, {"many": 40}, desk, "rounds 1")

    def test_long_rows(self):
        desk = Desk(TEXT)
        with within(20):
            for row in ("x" * 9000, " " * 9000, "tell " * 1800, "back\n" * 1800):
                self.no_row(desk, row)
            self.refused_unchanged(NoName, {"name": "x" * 8000}, desk, "why " + "x" * 8000)


class RefusedTest(DeskCase):
    def test_nothing_told(self):
        desk = Desk(TEXT)
        self.refused_unchanged(NothingTold, {}, desk, "back")
        self.said(desk, ("tell base cannot", "ok"), ("back", "ok"))
        self.refused_unchanged(NothingTold, {}, desk, "back")

    def test_no_truth(self):
        desk = Desk(TEXT, 1)
        self.said(desk, ("tell base bad", "ok"), ("tell base good", "ok"))
        self.said(desk, ("known", "base 1, left 1, right 1, join 1"), ("tell join bad", "ok"))
        self.refused_unchanged(NoTruth, {"rows": [[1, 3], [0, 3], [0, 3], [0, 3]]}, desk, "tell join good")

    def test_too_great(self):
        for lies, most in enumerate(MOST):
            for many in (most + 1, 40):
                desk = Desk(text_of(line(many)), lies)
                for row in ("number", "plan"):
                    self.refused_unchanged(TooGreat, {"many": many}, desk, row)
                names = desk_names(desk)
                self.assertEqual(desk.say("next"), names[many // 2 - 1])
                self.assertEqual(desk.say("left"), "open")
                self.assertEqual(desk.say("halves").split(" ")[0], names[many // 2 - 1])

    def test_too_great_for_rounds(self):
        desk = Desk(text_of(line(20)))
        names = desk_names(desk)
        for width in "123":
            self.refused_unchanged(TooGreat, {"many": 20}, desk, "rounds " + width)
        self.said(desk, (f"tell {names[5]} bad", "ok"))
        self.assertEqual([desk.say("rounds " + width) for width in "123"], ["3", "2", "2"])
        # Two makes that each of the makes but one part.
        for many in (11, 12):
            others = "cdefghijklmno"[:many - 1]
            desk = Desk("\n".join(["a 1", "b 1", *[f"{name} 1 a" for name in others]]))
            self.said(desk, (f"tell {others[-1]} bad", "ok"), ("known", f"a 0, {others[-1]} 0"))
            if many == 12:
                for width in "123":
                    self.refused_unchanged(TooGreat, {"many": 11}, desk, "rounds " + width)
                self.said(desk, ("tell c cannot", "ok"))
            self.said(desk, ("rounds 1", "1"), ("rounds 3", "1"))

    def test_more_than_six_goes_ahead_of_more_than_ten_useful(self):
        desk = Desk(text_of((*line(12), ())))
        self.said(desk, ("tell l bad", "ok"), ("tell a cannot", "ok"))
        self.refused_unchanged(TooGreat, {"many": 12}, desk, "rounds 2")


class LedTest(DeskCase):
    def led(self, chance, desk, net, first, lies):
        """What was tried, by names, badness begun there and at most so many trials lying."""
        names, tried = desk_names(desk), []
        while (name := desk.say("next")) != "none":
            bad = comes(net, names.index(name), first)
            if lies > 0 and chance.random() < 0.5:
                bad, lies = not bad, lies - 1
            self.said(desk, (f"tell {name} {'bad' if bad else 'good'}", "ok"))
            tried.append(name)
        return tried

    def test_within_as_many_answers_as_told(self):
        chance = random.Random(3)
        for _ in range(100):
            lies = chance.choice([0, 0, 1, 2, 3])
            net = some_net(chance, MOST[lies])
            prices = chance.choice([None, [chance.randint(1, 9) for _ in net]])
            for first in range(len(net)):
                desk = Desk(text_of(net, prices), lies)
                names = desk_names(desk)
                number = int(desk.say("number"))
                tried = self.led(chance, desk, net, first, chance.randint(0, lies))
                self.assertEqual(desk.say("left"), names[first])
                self.assertLessEqual(
                    sum(1 if prices is None else prices[names.index(name)] for name in tried), number)

    def test_forty_makes(self):
        chance = random.Random(4)
        with within(120):
            for lies in range(4):
                for first in (0, 17, 39):
                    desk = Desk(text_of(line(40)), lies)
                    self.led(chance, desk, line(40), first, lies)
                    self.assertEqual(desk.say("left"), desk_names(desk)[first])


if __name__ == "__main__":
    unittest.main()
