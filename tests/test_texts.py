"""Points 2, 33 and 34: texts of named nets, and of plans."""

import random
import re
import unittest

from badbegins import texts as texts_file
from badbegins.books import best_plan
from badbegins.errors import NoText
from badbegins.halves import halving_plan
from badbegins.nets import net_of
from badbegins.stands import stand_of
from badbegins.texts import net_in, prices_in, read_net, show_net, show_plan

from helping import BIG, Asking, great_things, line, long_plan, some_net, some_plan, some_thing, within

GREAT = 10 ** 30
NAMED = [("base", 1, ()), ("right", 20, ("base",)), ("left", 1, ("base",)), ("join", 3, ("left", "right"))]
TEXT = "base 1\nright 20 base\nleft 1 base\njoin 3 left right"
ROW = re.compile(r"([a-z]{1,8}) ([1-9][0-9]{0,30})((?: [a-z]{1,8})*)")


def fault_of(text):
    """The first row that is not as told, or None: point 33 word by word."""
    if not isinstance(text, str):
        return 0
    ahead = []
    for place, row in enumerate(text.split("\n")):
        found = ROW.fullmatch(row)
        if found is None or len(ahead) == 40:
            return place
        name, price, elders = found[1], found[2], found[3].split()
        if name in [*ahead, "none", "open"] or int(price) > GREAT:
            return place
        if not set(elders) <= set(ahead) or len(set(elders)) < len(elders):
            return place
        ahead.append(name)
    return None


def some_name(chance):
    return "".join(chance.choice("abcz") for _ in range(chance.choice([1, 2, 3, 8])))


def some_named(chance, most):
    """A named net of up to so many makes, by chance."""
    net = some_net(chance, most)
    names = []
    while len(names) < len(net):
        name = some_name(chance)
        if name not in names:
            names.append(name)
    return [
        (names[make], chance.choice([1, 2, 10, 99, GREAT - 1, GREAT]),
         tuple(names[elder] for elder in chance.sample(elders, len(elders))))
        for make, elders in enumerate(net)]


def bent(chance, text):
    """The text with some signs changed, by chance."""
    for _ in range(chance.randint(0, 3)):
        place = chance.randint(0, len(text))
        piece = chance.choice(
            ["", " ", "\n", "  ", "a", "b", "0", "1", "Z", "-", "~", " a", "\nb 1", "\nc 2 a", "none", "open"])
        text = text[:place] + piece + text[place + chance.randint(0, 2):]
    return text


class TextCase(Asking):
    def no_text(self, row, text):
        self.refused(NoText, {"row": row}, read_net, text)

    def as_told(self, text):
        fault = fault_of(text)
        if fault is None:
            named = self.told(read_net, text)
            self.assertEqual(show_net(named), text)
        else:
            self.no_text(fault, text)
        return fault


class ReadTest(TextCase):
    def test_defined_here(self):
        for call in (read_net, show_net, net_in, prices_in, show_plan):
            self.assertEqual(call.__module__, texts_file.__name__)

    def test_a_net(self):
        self.assertEqual(read_net(TEXT), NAMED)
        self.assertEqual(show_net(NAMED), TEXT)
        self.assertEqual(read_net("join 3"), [("join", 3, ())])

    def test_elders_stay_in_the_order_told(self):
        text = "a 1\nb 1\nc 1\nd 1 c a b"
        self.assertEqual(read_net(text)[3], ("d", 1, ("c", "a", "b")))
        self.assertEqual(show_net(read_net(text)), text)
        self.assertEqual(net_in(read_net(text)), ((), (), (), (0, 1, 2)))

    def test_kinds_and_new_lists(self):
        first, second = read_net(TEXT), read_net(TEXT)
        self.assertIs(type(first), list)
        for make in first:
            self.assertEqual([type(make), *map(type, make)], [tuple, str, int, tuple])
        first.clear()
        self.assertEqual(read_net(TEXT), second)

    def test_what_is_written_is_read_as_the_same(self):
        chance = random.Random(1)
        for _ in range(300):
            named = some_named(chance, 12)
            text = self.told(show_net, named)
            self.assertEqual(self.told(read_net, text), named)
            self.assertEqual(show_net(tuple(named)), text)

    def test_forty_makes_with_all_elders(self):
        names = ["abcdefg" + sign for sign in "abcdefghijklmnopqrstuvwxyz"]
        names += ["a" + sign for sign in "abcdefghijklmn"]
        named = [(name, GREAT, tuple(names[:place])) for place, name in enumerate(names)]
        text = show_net(named)
        self.assertEqual(read_net(text), named)
        self.assertEqual(net_in(named), tuple(tuple(range(make)) for make in range(40)))
        self.no_text(40, text + "\nz 1")
        self.no_text(40, text + "\n")
        self.no_text(40, text + "\n" * 50)
        self.no_text(39, text + " z\nz 1")


class NoTextTest(TextCase):
    def test_no_text(self):
        for thing in (
            None, True, False, 0, 1, BIG, (), [], [TEXT], (TEXT,), ["base 1"], [("base", 1, ())], *great_things(),
        ):
            self.no_text(0, thing)

    def test_anything_at_all(self):
        chance = random.Random(2)
        for _ in range(500):
            self.as_told(some_thing(chance, 4))

    def test_empty_rows(self):
        self.no_text(0, "")
        self.no_text(0, "\n")
        self.no_text(0, "\n" + TEXT)
        self.no_text(1, "a 1\n\nb 1")
        self.no_text(1, "a 1\n")
        self.no_text(4, TEXT + "\n")
        self.no_text(4, TEXT + "\n\n")
        self.no_text(0, " ")
        self.no_text(1, "a 1\n \nb 1")

    def test_blanks(self):
        for row in (" b 1", "b 1 ", "b  1", "b 1  a", "b 1 a ", "  b 1", "b", "b ", "b  ", " b", "1", "b a", "b1"):
            self.no_text(0, row)
            self.no_text(1, "a 1\n" + row)
            self.no_text(1, "a 1\n" + row + "\n\n")
        self.assertEqual(read_net("a 1\nb 1 a"), [("a", 1, ()), ("b", 1, ("a",))])

    def test_prices(self):
        for price in ("1", "9", "10", "100", "9" * 30, "1" + "0" * 30, "1" + "0" * 29):
            self.assertEqual(read_net("a " + price), [("a", int(price), ())])
        for price in (
            "0", "00", "01", "007", "0" * 31, "1" + "0" * 29 + "1", "9" * 31, "2" + "0" * 30, "1" + "0" * 31,
            "9" * 32, "9" * 4299, "9" * 4301, "9" * 8000, "0" * 8000, "-1", "+1", "1.0", "1_0", "1,0",
            "1e3", "x", "", "1a", "a1", "0x1", "1\t", "a",
        ):
            self.no_text(0, "a " + price)
            self.no_text(1, "b 1\na " + price + " b\nb 1")

    def test_names(self):
        for name in ("a", "z", "abcdefgh", "zzzzzzzz", "nones", "opens", "non", "tell", "back", "bad", "good", "o"):
            self.assertEqual(read_net(name + " 1"), [(name, 1, ())])
        for name in (
            "", "abcdefghi", "a" * 9, "a" * 8000, "none", "open", "A", "aB", "None", "a1", "1", "a-b", "a_b", "~", "=",
            "(", ")", "a.", "a,",
        ):
            self.no_text(0, name + " 1")
            self.no_text(1, "b 1\n" + name + " 1 b")
            self.no_text(2, "b 1\nc 1\nd 1 " + name)
            self.no_text(2, "b 1\nc 1\nd 1 b " + name + " c")

    def test_a_name_that_stands_ahead(self):
        self.no_text(1, "a 1\na 1")
        self.no_text(2, "a 1\nb 1 a\na 2")
        self.no_text(3, "a 1\nb 1 a\nc 1\nb 2 a\nb 1")

    def test_an_elder_that_does_not_stand_ahead(self):
        self.no_text(0, "a 1 a")
        self.no_text(0, "a 1 b\nb 1")
        self.no_text(1, "a 1\nb 1 a c\nc 1")
        self.no_text(1, "a 1\nb 1 b")

    def test_an_elder_twice(self):
        self.no_text(1, "a 1\nb 1 a a")
        self.no_text(2, "a 1\nb 1\nc 1 a b a")

    def test_a_forty_first_row(self):
        names = [one + other for one in "abcdefg" for other in "abcdef"][:42]
        rows = [name + " 1" for name in names]
        self.assertEqual(len(read_net("\n".join(rows[:40]))), 40)
        self.no_text(40, "\n".join(rows[:41]))
        self.no_text(40, "\n".join(rows))
        self.no_text(7, "\n".join(rows[:7] + ["x"] + rows[7:]))

    def test_the_first_row_goes(self):
        self.no_text(1, "a 1\nb 0\nc")
        self.no_text(2, "a 1\nb 1 a\nc 1 d\na 1\n")

    def test_texts_bent_by_chance(self):
        chance = random.Random(3)
        found = set()
        for _ in range(3000):
            found.add(self.as_told(bent(chance, show_net(some_named(chance, 5)))))
        self.assertEqual(found >= {None, 0, 1, 2, 3}, True)

    def test_nine_thousand_signs(self):
        with within(20):
            for sign in ("a", " ", "\n", "1", "~", "a 1\n", "\n ", "a "):
                self.as_told(sign * (9000 // len(sign)))
                self.as_told("b 1\nc 1 " + sign * (8000 // len(sign)))


class NetInTest(Asking):
    def test_the_makes_in_the_order_of_the_rows(self):
        self.assertEqual(self.told(net_in, NAMED), ((), (0,), (0,), (1, 2)))
        self.assertEqual(self.told(prices_in, NAMED), [1, 20, 1, 3])
        self.assertEqual(net_in(tuple(NAMED)), net_in(NAMED))
        self.assertEqual(prices_in(tuple(NAMED)), [1, 20, 1, 3])

    def test_by_chance(self):
        chance = random.Random(4)
        for _ in range(200):
            named = some_named(chance, 12)
            names = [name for name, _, _ in named]
            self.assertEqual(
                net_in(named), net_of([[names.index(elder) for elder in elders] for _, _, elders in named]))
            self.assertEqual(prices_in(named), [price for _, price, _ in named])

    def test_told_lists_are_new_ones(self):
        prices_in(NAMED).append(9)
        self.assertEqual(prices_in(NAMED), [1, 20, 1, 3])


def plan_read(names, text):
    """The plan that is written so, from its words."""
    words = text.split(" ")

    def taken():
        word = words.pop(0)
        if word == "=":
            makes = []
            while words and words[0] != ")":
                makes.append(names.index(words.pop(0)))
            return ("left", tuple(makes))
        parts = []
        for _ in range(2):
            assert words.pop(0) == "("
            parts.append(taken())
            assert words.pop(0) == ")"
        return ("try", names.index(word), *parts)

    plan = taken()
    assert words == []
    return plan


class ShowPlanTest(Asking):
    def test_that_of_the_document(self):
        named = [("base", 1, ()), ("left", 1, ("base",))]
        plan = ("try", 1, ("left", (1,)), ("left", (0,)))
        self.assertEqual(self.told(show_plan, named, plan), "left ( = left ) ( = base )")

    def test_left(self):
        self.assertEqual(show_plan(NAMED, ("left", (2,))), "= left")
        self.assertEqual(show_plan(NAMED, ("left", (0, 1, 3))), "= base right join")

    def test_tries_within_one_another(self):
        self.assertEqual(
            show_plan(NAMED, best_plan(net_in(NAMED), stand_of(range(4)))),
            "right ( base ( = base ) ( = right ) ) ( left ( = left ) ( = join ) )")
        self.assertEqual(
            show_plan(NAMED, halving_plan(line(4), range(4), [0, 1])), "left ( = base right left ) ( = join )")

    def test_by_chance(self):
        chance = random.Random(5)
        for _ in range(200):
            named = some_named(chance, 8)
            plan = some_plan(chance, net_in(named), 6)
            names = [name for name, _, _ in named]
            if all(makes for makes in lefts(plan)):
                self.assertEqual(plan_read(names, show_plan(named, plan)), plan)

    def test_sixty_tries_within_one_another(self):
        named = [("a", 1, ()), ("b", 1, ())]
        self.assertEqual(show_plan(named, long_plan(60, "bad")), "b ( " * 60 + "= a" + " ) ( = b )" * 60)
        self.assertEqual(show_plan(named, long_plan(60, "good")), "b ( = b ) ( " * 60 + "= a" + " )" * 60)


def lefts(plan):
    return [plan[1]] if plan[0] == "left" else [*lefts(plan[2]), *lefts(plan[3])]


if __name__ == "__main__":
    unittest.main()
