"""Promises [30] and [31], with [1] to [3] for them: texts of plans."""

import copy
import inspect
import itertools
import random
import unittest

import by_words
from by_words import lists_in, raised, within_seconds
from hearunlike import texts
from hearunlike.errors import InvalidNumber, InvalidPlan, InvalidText
from hearunlike.posts import Post
from hearunlike.rules import Rule
from hearunlike.texts import read_plan, text_of
from test_plans import NO_PLANS, ODD, ONE, TWO

NO_PLACES = ODD + [0, 3, -1, 10 ** 19, "1", "2", [1], (1,), (2,), ONE]
OTHERS = [Post(ONE, 1), Rule([], [[0]], [])]


class Interface(unittest.TestCase):
    def test_signatures(self):
        self.assertEqual(str(inspect.signature(text_of)), "(plan, places)")
        self.assertEqual(str(inspect.signature(read_plan)), "(text, places)")

    def test_defined_where_they_are_listed(self):
        for name in ("text_of", "read_plan"):
            self.assertEqual(vars(texts)[name].__module__, "hearunlike.texts")

    def test_by_name(self):
        self.assertEqual(text_of(places=2, plan=[[1]]), ".o")
        self.assertEqual(read_plan(places=2, text=".o"), [[1]])


class TextOf(unittest.TestCase):
    def test_by_words(self):
        signs = {(1, ()): ".", (1, (0,)): "o", (2, ()): "..", (2, (0,)): "o.", (2, (1,)): ".o", (2, (0, 1)): "oo"}
        for web in (ONE, TWO):
            for n in range(1, 5):
                for plan in by_words.all_plans(web, n):
                    for places in range(web.places, 3):
                        wanted = " ".join(signs[(places, tuple(piece))] for piece in plan)
                        self.assertEqual(text_of(plan, places), wanted)
                        self.assertIs(type(text_of(plan, places)), str)

    def test_there_and_back(self):
        chance = random.Random(12)
        for web in (ONE, TWO):
            for n in (1, 2, 3, 10, 60):
                for plan in by_words.some_plans(web, n, 5, chance):
                    for places in range(web.places, 3):
                        self.assertEqual(read_plan(text_of(plan, places), places), plan)

    def test_one_place_in_strips_of_two(self):
        self.assertEqual(text_of([[0], []], 1), "o .")
        self.assertEqual(text_of([[0], []], 2), "o. ..")

    def test_invalid_plan(self):
        for plan in NO_PLANS + OTHERS:
            for places in (1, 2):
                raised(self, InvalidPlan, plan, lambda: text_of(plan, places))

    def test_invalid_number(self):
        for places in NO_PLACES + OTHERS:
            for plan in ([[]], [[0]], [[0, 1], []]):
                raised(self, InvalidNumber, places, lambda: text_of(plan, places))

    def test_places_that_are_not_greater_than_all(self):
        for plan in ([[1]], [[0], [1]], [[0, 1]], [[], [0, 1], []]):
            raised(self, InvalidNumber, 1, lambda: text_of(plan, 1))
            text_of(plan, 2)

    def test_order_of_errors(self):
        raised(self, InvalidPlan, None, lambda: text_of(None, None))
        raised(self, InvalidPlan, plan := [], lambda: text_of(plan, 3))
        raised(self, InvalidPlan, plan := [[2]], lambda: text_of(plan, 1))
        raised(self, InvalidNumber, None, lambda: text_of([[1]], None))

    def test_plan_stays(self):
        plan = [[0], [], [0, 1]]
        held = copy.deepcopy(plan)
        text_of(plan, 2)
        self.assertEqual(plan, held)


class ReadPlan(unittest.TestCase):
    def test_all_short_texts(self):
        for n in range(0, 6):
            for signs in itertools.product("oO. \nx", repeat=n):
                text = "".join(signs)
                for places in (1, 2):
                    if by_words.is_text(text, places):
                        self.assertEqual(read_plan(text, places), by_words.text_plan(text, places), repr(text))
                    else:
                        raised(self, InvalidText, text, lambda: read_plan(text, places))

    def test_long_texts(self):
        chance = random.Random(13)
        for places in (1, 2):
            for _ in range(200):
                text = ""
                for _ in range(chance.randint(1, 20)):
                    text += chance.choice(["", "", " ", "\n", " \n ", "\n\n"])
                    text += "".join(chance.choice("oO.") for _ in range(places))
                text += chance.choice(["", " ", "\n"])
                self.assertEqual(read_plan(text, places), by_words.text_plan(text, places), repr(text))

    def test_blanks_between_ahead_and_behind(self):
        for text in ("o..o", "o. .o", "o.\n.o", "  o.   .o  ", "\n\no.\n \n.o\n", "\n o..o \n"):
            self.assertEqual(read_plan(text, 2), [[0], [1]])
        for text in ("o.", "o .", " o\n.", "o\n\n.\n"):
            self.assertEqual(read_plan(text, 1), [[0], []])

    def test_blanks_within_a_piece(self):
        for text in ("o .", "o\n.", "o. . o", "o ..o", " o .", ".. o o", "o. .\no", "ooo .", "o o.o"):
            raised(self, InvalidText, text, lambda: read_plan(text, 2))

    def test_both_signs_of_a_watcher(self):
        self.assertEqual(read_plan("oO.O", 2), [[0, 1], [1]])
        self.assertEqual(read_plan("O.o", 1), [[0], [], [0]])

    def test_signs_that_are_none(self):
        for sign in ("x", "0", "Q", "*", ",", "-", "_", "\t", "\r", "\r\n", "\x0b", "\x0c", "\x00", "\x1c", "\x85",
                     "\xa0", "\u2028", "\u3000", "\u200b", "\ufeff", "\u043e", "\u039f", "\uff0e", "\uff4f", "\u2026"):
            for places in (1, 2):
                for text in (sign, "oo" + sign, sign + "oo", "oo" + sign + "oo", "oo " + sign + " oo", sign * places,
                             ("o" + sign) * 2):
                    raised(self, InvalidText, text, lambda: read_plan(text, places))

    def test_texts_that_end_within_a_piece(self):
        for text in ("o", ".", "ooo", "oo o", "oo oo .", "oo\n.\n", " o "):
            raised(self, InvalidText, text, lambda: read_plan(text, 2))
            read_plan(text, 1)

    def test_no_piece(self):
        for text in ("", " ", "\n", " \n \n"):
            for places in (1, 2):
                raised(self, InvalidText, text, lambda: read_plan(text, places))

    def test_values_that_are_no_texts(self):
        for value in [None, True, False, 0, 1, [], ["o"], ("o",), ("o", "."), {}, {"o": 1}, [[0]], ONE] + OTHERS:
            for places in (1, 2):
                raised(self, InvalidText, value, lambda: read_plan(value, places))

    def test_invalid_number(self):
        for places in NO_PLACES + OTHERS:
            raised(self, InvalidNumber, places, lambda: read_plan("oo", places))

    def test_order_of_errors(self):
        raised(self, InvalidNumber, None, lambda: read_plan(None, None))
        raised(self, InvalidNumber, 3, lambda: read_plan("ooo", 3))
        raised(self, InvalidText, "", lambda: read_plan("", 1))

    def test_new_lists(self):
        first, second = read_plan("oo oo .. ..", 2), read_plan("oo oo .. ..", 2)
        self.assertEqual(first, second)
        found = lists_in(first) + lists_in(second)
        self.assertEqual(len({id(x) for x in found}), 10)
        first[0].clear()
        first[2].append(0)
        self.assertEqual(read_plan("oo oo .. ..", 2), second)

    def test_example(self):
        self.assertEqual([text_of([[0], [], [0, 1]], 2), read_plan('o...\n oO', 2)],
                         ['o. .. oo', [[0], [], [0, 1]]])


class Limits(unittest.TestCase):
    def test_longest_plans(self):
        for places in (1, 2):
            text = within_seconds(self, text_of, [list(range(places))] * 200, places)
            self.assertEqual(text, " ".join(["o" * places] * 200))

    def test_longest_texts(self):
        for text, many in (("o" * 5000, 5000), (" \n" * 2499 + "oo", 2), ("oo " * 1666, 3332)):
            for places in (1, 2):
                self.assertEqual(len(within_seconds(self, read_plan, text, places)), many // places)
        for text in (" " * 5000, "o" * 4999 + "x", "x" * 5000):
            with self.assertRaises(InvalidText):
                within_seconds(self, read_plan, text, 2)


if __name__ == "__main__":
    unittest.main()
