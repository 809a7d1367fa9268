"""Promises [60], [61] and [62], with [1] to [3] for them: libraries, their steps and what undoes them."""

import copy
import inspect
import itertools
import random
import unittest

import by_words
from by_words import NEAR, ODD, within_seconds
from hearunlike import library as module
from hearunlike.errors import (InvalidName, InvalidNeeds, InvalidPlan, InvalidWeb, NothingToUndo, TakenName,
                               UnknownName)
from hearunlike.library import Library
from hearunlike.mending import parted
from hearunlike.posts import Post
from hearunlike.rules import Rule
from hearunlike.webs import Web
from test_mending import swapped
from test_plans import NO_NEEDS, NO_PLANS, NO_WEBS, ONE, TWO
from test_standings import FULL, RICH, ROOK, SKEW, WEBS, WIDE

NAMES = ["a", "z", "web", "abcdefgh", "zzzzzzzz", "aa", "ab", "b"]
NO_NAMES = [value for value in ODD if value != "a"] + [
    0, 1, "A", "aB", "abcdefghi", "a b", " a", "a ", "a1", "1", "a_b", "a\n", "\n", "a-b", "\u00e4", "\u00df", "\u0430",
    "a\u0301", ["a"], ("a",), {"a": 1}, [], (), 10 ** 19, ONE, Rule([], [[0]], []), Library(), Post(ONE, 1)]


def named(case, kind, name, call):
    """Check that a call raises this very error, with this very name in its field."""
    with case.assertRaises(kind) as caught:
        call()
    case.assertIs(type(caught.exception), kind)
    case.assertIs(caught.exception.name, name)


def made(webs):
    """A library that keeps webs by the names of a dict."""
    library = Library()
    for name, web in webs.items():
        library.put(name, web)
    return library


class Kept:
    """A library that the test keeps itself: the webs as they were after each step, and the steps."""

    def __init__(self):
        self.states = [{}]
        self.steps = []

    def webs(self):
        return self.states[-1]

    def error(self, step):
        """The error that a step raises, or None."""
        if step[0] == "back":
            return None if self.steps else NothingToUndo
        if step[0] == "put":
            if step[1] not in NAMES:
                return InvalidName
            if step[1] in self.webs():
                return TakenName
        elif step[1] not in self.webs():
            return UnknownName
        return InvalidWeb if step[0] != "drop" and not isinstance(step[2], Web) else None

    def do(self, step):
        if step[0] == "back":
            self.states.pop()
            self.steps.pop()
            return
        now = dict(self.webs())
        now.pop(step[1], None)
        if step[0] != "drop":
            now[step[1]] = step[2]
        self.states.append(now)
        self.steps.append(step[:2])

    def copy(self):
        other = Kept()
        other.states, other.steps = list(self.states), list(self.steps)
        return other


def some_step(chance):
    """A step that may be refused."""
    name = chance.choice(["put", "put", "put", "drop", "change", "change", "back"])
    web = chance.choice([ONE, TWO, ROOK, Web(1, []), None, "web"] + [ONE, TWO] * 2)
    told = chance.choice(NAMES + ["A", "abcdefghi", 1, None])
    return {"back": (name,), "drop": (name, told)}.get(name, (name, told, web))


class Interface(unittest.TestCase):
    def test_signatures(self):
        self.assertEqual(str(inspect.signature(Library)), "()")
        wanted = {"put": "(self, name, web)", "drop": "(self, name)", "change": "(self, name, web)",
                  "web_of": "(self, name)", "names": "(self)", "good_for": "(self, plan, needs)",
                  "alike": "(self, web, needs)", "back": "(self)", "log": "(self)", "copy": "(self)"}
        for name, signature in wanted.items():
            self.assertEqual(str(inspect.signature(vars(Library)[name])), signature, name)

    def test_defined_where_it_is_listed(self):
        self.assertEqual(Library.__module__, "hearunlike.library")
        self.assertIs(vars(module)["Library"], Library)
        for name in ("__len__", "__contains__", "__eq__"):
            self.assertIn(name, vars(Library))

    def test_by_name(self):
        library = Library()
        self.assertIs(library.put(web=ONE, name="a"), None)
        self.assertIs(library.change(web=ROOK, name="a"), None)
        self.assertIs(library.web_of(name="a"), ROOK)
        self.assertEqual(library.good_for(needs=(1, 0), plan=[[0], [0]]), ["a"])
        self.assertEqual(library.alike(needs=(1, 0), web=ROOK), ["a"])
        self.assertIs(library.drop(name="a"), None)


class RowsOfSteps(unittest.TestCase):
    def do(self, library, kept, step):
        """Do a step on both, and check that the library refuses what the kept one refuses, and that they agree."""
        error = kept.error(step)
        if error is None:
            self.assertIs(getattr(library, step[0])(*step[1:]), None)
            kept.do(step)
        else:
            before = (library.copy(), library.log())
            with self.assertRaises(error) as caught:
                getattr(library, step[0])(*step[1:])
            self.assertIs(type(caught.exception), error)
            self.assertTrue(library == before[0])
            self.assertEqual(library.log(), before[1])
        self.compare(library, kept)
        return error

    def compare(self, library, kept):
        webs = kept.webs()
        self.assertEqual(library.names(), sorted(webs))
        self.assertEqual(len(library), len(webs))
        self.assertEqual(library.log(), kept.steps)
        for name in NAMES:
            self.assertIs(name in library, name in webs)
            if name in webs:
                self.assertIs(library.web_of(name), webs[name])
        self.assertTrue(library == made(webs))

    def test_good_and_refused_steps_mixed(self):
        chance = random.Random(1)
        seen = {}
        for _ in range(12):
            library, kept = Library(), Kept()
            for _ in range(80):
                error = self.do(library, kept, some_step(chance))
                seen[error] = seen.get(error, 0) + 1
            while kept.steps:
                self.do(library, kept, ("back",))
            self.assertEqual((library.names(), library.log(), len(library)), ([], [], 0))
            self.do(library, kept, ("back",))
        self.assertEqual(set(seen), {None, InvalidName, TakenName, UnknownName, InvalidWeb, NothingToUndo})
        self.assertGreater(min(seen.values()), 3)

    def test_copies_go_on_by_themselves(self):
        chance = random.Random(2)
        for _ in range(8):
            pairs = [(Library(), Kept())]
            for _ in range(60):
                library, kept = chance.choice(pairs)
                if chance.random() < 0.1 and len(pairs) < 4:
                    pairs.append((library.copy(), kept.copy()))
                self.do(library, kept, some_step(chance))
                for told in pairs:
                    self.compare(*told)
            for library, kept in pairs:
                while kept.steps:
                    self.do(library, kept, ("back",))
                self.do(library, kept, ("back",))


class Names(unittest.TestCase):
    def test_names(self):
        library = Library()
        for name in NAMES:
            library.put(name, ONE)
        self.assertEqual(library.names(), ["a", "aa", "ab", "abcdefgh", "b", "web", "z", "zzzzzzzz"])
        self.assertEqual(len(library), 8)

    def test_invalid_names(self):
        for library in (Library(), made({"a": ONE})):
            for name in NO_NAMES:
                named(self, InvalidName, name, lambda: library.put(name, ONE))
                for call in (library.drop, library.web_of, lambda told: library.change(told, ONE)):
                    named(self, UnknownName, name, lambda: call(name))
                self.assertIs(name in library, False)
            self.assertLessEqual(len(library.log()), 1)

    def test_names_that_are_not_kept(self):
        library = made({"a": ONE, "ab": TWO})
        for name in ("b", "aa", "abc", "abcdefgh"):
            for call in (library.drop, library.web_of, lambda told: library.change(told, ONE)):
                named(self, UnknownName, name, lambda: call(name))
            self.assertIs(name in library, False)
        library.drop("a")
        named(self, UnknownName, dropped := "a", lambda: library.drop(dropped))
        self.assertIs("a" in library, False)

    def test_taken_names(self):
        library = made({"a": ONE})
        for web in (ONE, TWO, None):
            named(self, TakenName, taken := "a", lambda: library.put(taken, web))
        self.assertIs(library.web_of("a"), ONE)

    def test_invalid_webs(self):
        library = made({"a": ONE})
        for web in NO_WEBS + [library]:
            by_words.raised(self, InvalidWeb, web, lambda: library.put("b", web))
            by_words.raised(self, InvalidWeb, web, lambda: library.change("a", web))
        self.assertEqual((library.names(), library.log()), (["a"], [("put", "a")]))

    def test_order_of_errors(self):
        library = made({"a": ONE})
        named(self, InvalidName, wrong := "A", lambda: library.put(wrong, None))
        named(self, TakenName, taken := "a", lambda: library.put(taken, None))
        named(self, UnknownName, unknown := "b", lambda: library.change(unknown, None))
        by_words.raised(self, InvalidPlan, None, lambda: library.good_for(None, None))
        by_words.raised(self, InvalidNeeds, None, lambda: library.good_for([[1]], None))
        by_words.raised(self, InvalidWeb, None, lambda: library.alike(None, None))
        by_words.raised(self, InvalidNeeds, None, lambda: library.alike(ONE, None))


class Steps(unittest.TestCase):
    def test_back_to_the_beginning(self):
        library = Library()
        library.put("a", ONE)
        library.change("a", TWO)
        library.change("a", ROOK)
        library.drop("a")
        library.put("a", WIDE)
        self.assertEqual(library.log(), [("put", "a"), ("change", "a"), ("change", "a"), ("drop", "a"), ("put", "a")])
        for web, many in ((None, 4), (ROOK, 3), (TWO, 2), (ONE, 1), (None, 0)):
            self.assertIs(library.back(), None)
            self.assertEqual(len(library.log()), many)
            self.assertIs("a" in library, web is not None)
            if web is not None:
                self.assertIs(library.web_of("a"), web)
        for _ in range(2):
            with self.assertRaises(NothingToUndo):
                library.back()

    def test_nothing_to_undo_at_first(self):
        with self.assertRaises(NothingToUndo):
            Library().back()
        with self.assertRaises(NothingToUndo):
            Library().copy().back()

    def test_a_change_to_an_equal_web_is_a_step(self):
        library = made({"a": ONE})
        library.change("a", Web(1, NEAR))
        self.assertEqual(library.log(), [("put", "a"), ("change", "a")])
        library.back()
        self.assertIs(library.web_of("a"), ONE)

    def test_refused_steps_stand_in_no_log(self):
        library = made({"a": ONE})
        for call in (lambda: library.put("a", TWO), lambda: library.put("A", TWO), lambda: library.put("b", None),
                     lambda: library.drop("b"), lambda: library.change("b", TWO), lambda: library.change("a", None),
                     lambda: library.web_of("b"), lambda: library.good_for(None, None), lambda: library.alike(None, 1)):
            with self.assertRaises(ValueError):
                call()
        self.assertEqual(library.log(), [("put", "a")])
        library.back()
        self.assertEqual(len(library), 0)

    def test_questions_are_no_steps(self):
        library = made({"a": ONE, "b": TWO})
        library.names(), library.log(), library.copy(), library.web_of("a"), len(library), "a" in library
        library.good_for([[0]], (1, 0)), library.alike(ONE, (1, 0))
        self.assertEqual(library.log(), [("put", "a"), ("put", "b")])

    def test_told_lists_are_changed(self):
        library = made({"a": ONE, "b": TWO})
        library.names().append("c")
        library.names().clear()
        library.log().clear()
        library.good_for([[0], [0], [0]], (1, 0)).append("c")
        library.alike(ONE, (1, 0)).clear()
        self.assertEqual((library.names(), library.log()), (["a", "b"], [("put", "a"), ("put", "b")]))
        self.assertEqual(library.alike(ONE, (1, 0)), ["a"])
        for call in (library.names, library.log, lambda: library.good_for([[0]], (1, 0)),
                     lambda: library.alike(ONE, (1, 0))):
            self.assertIsNot(call(), call())

    def test_kinds_of_results(self):
        library = made({"a": ONE})
        self.assertEqual([type(library.names()), type(library.log()), type(library.log()[0])], [list, list, tuple])
        self.assertEqual([type(x) for x in library.log()[0]], [str, str])
        self.assertIs(type(library.copy()), Library)
        self.assertEqual(library.names(), ["a"])


class EqualLibraries(unittest.TestCase):
    def test_equal(self):
        self.assertTrue(Library() == Library())
        self.assertTrue(made({"a": ONE, "b": TWO}) == made({"b": TWO, "a": Web(1, NEAR)}))
        self.assertFalse(made({"a": ONE, "b": TWO}) != made({"b": TWO, "a": ONE}))

    def test_steps_do_not_count(self):
        one, other = made({"a": ONE}), made({"a": TWO, "b": ONE})
        other.drop("b")
        other.change("a", ONE)
        self.assertTrue(one == other)
        self.assertFalse(one.log() == other.log())

    def test_names_and_webs_count(self):
        libraries = [made(webs) for webs in ({}, {"a": ONE}, {"b": ONE}, {"a": TWO}, {"a": ONE, "b": ONE},
                                             {"a": ONE, "b": TWO}, {"a": TWO, "b": ONE}, {"a": Web(1, [])})]
        for one, other in itertools.combinations(libraries, 2):
            self.assertIs(one == other, False)
            self.assertIs(one != other, True)

    def test_equal_to_no_other_object(self):
        for library in (Library(), made({"a": ONE})):
            for other in ODD + [0, [], ["a"], {"a": ONE}, ONE, "a", Post(ONE, 1), Rule([], [[0]], [])]:
                self.assertIs(library == other, False)
                self.assertIs(library != other, True)

    def test_copies_are_equal(self):
        library = made({"a": ONE, "b": TWO})
        other = library.copy()
        self.assertTrue(library == other)
        self.assertEqual(library.log(), other.log())
        other.drop("a")
        self.assertFalse(library == other)
        other.back()
        self.assertTrue(library == other)


class Questions(unittest.TestCase):
    def setUp(self):
        self.webs = {chr(ord("a") + k): web for k, web in enumerate(WEBS + [swapped(RICH), swapped(SKEW)])}
        self.library = made(dict(sorted(self.webs.items(), reverse=True)))

    def good_for(self, plan, needs):
        return [name for name, web in sorted(self.webs.items())
                if all(i < web.places for piece in plan for i in piece) and by_words.is_good(web, plan, needs)]

    def test_good_for(self):
        chance = random.Random(3)
        longest = set()
        for _ in range(150):
            n, thick, top = chance.randint(1, 9), chance.choice([0.5, 0.8, 1]), chance.choice([1, 2])
            plan = [[j for j in range(top) if chance.random() < thick] for _ in range(n)]
            for needs in ((1, 0), (1, 1), (2, 1)):
                found = self.library.good_for(plan, needs)
                self.assertEqual(found, self.good_for(plan, needs))
                longest.add(len(found))
        self.assertGreater(max(longest), 8)
        self.assertIn(0, longest)

    def test_good_for_webs_of_one_and_of_two_places(self):
        library = made({"one": Web(1, [(0, 0, 0)]), "two": Web(2, [(0, 0, 0), (0, 1, 0)]),
                        "all": Web(2, [(0, 0, 0), (1, 1, 0)])})
        self.assertEqual(library.good_for([[0], [0]], (1, 0)), ["one", "two"])
        self.assertEqual(library.good_for([[0], [0]], (1, 1)), ["one"])
        self.assertEqual(library.good_for([[0, 1], [0, 1]], (1, 1)), ["all"])
        self.assertEqual(library.good_for([[0, 1], [0, 1]], (1, 0)), ["all", "two"])
        self.assertEqual(library.good_for([[1]], (1, 0)), [])

    def test_good_as_a_row_not_as_a_ring(self):
        library = made({"near": Web(1, NEAR)})
        plan = [[0], [0], [0], [], [0], [0]]
        self.assertTrue(by_words.is_good(ONE, plan, (1, 1), True))
        self.assertEqual(library.good_for(plan, (1, 1)), [])
        self.assertEqual(library.good_for([[0]] * 4, (1, 1)), ["near"])

    def test_alike(self):
        for web in WEBS + [swapped(FULL)]:
            for needs in ((1, 0), (1, 1), (2, 2)):
                found = self.library.alike(web, needs)
                wanted = [name for name, other in sorted(self.webs.items())
                          if other.places == web.places and parted(web, other, needs) is None]
                self.assertEqual(found, wanted)
        self.assertEqual([self.webs[name] for name in self.library.alike(RICH, (1, 1))], [RICH, swapped(RICH)])

    def test_alike_webs_of_one_and_of_two_places(self):
        # None of these has a good plan, but only those with as many places are compared.
        library = made({"one": Web(1, []), "two": Web(2, []), "other": Web(2, [(0, 0, 0)]), "full": FULL, "near": ONE})
        self.assertEqual(library.alike(Web(2, []), (1, 0)), ["other", "two"])
        self.assertEqual(library.alike(Web(2, []), (1, 1)), ["full", "other", "two"])
        self.assertEqual(library.alike(Web(1, []), (1, 0)), ["one"])
        self.assertEqual(library.alike(Web(1, NEAR), (1, 1)), ["near"])

    def test_none_kept(self):
        self.assertEqual((Library().good_for([[0]], (1, 0)), Library().alike(ONE, (1, 0))), ([], []))

    def test_errors(self):
        for library in (Library(), self.library):
            for plan in NO_PLANS:
                by_words.raised(self, InvalidPlan, plan, lambda: library.good_for(plan, (1, 1)))
            for web in NO_WEBS + [library]:
                by_words.raised(self, InvalidWeb, web, lambda: library.alike(web, (1, 1)))
            for needs in NO_NEEDS:
                by_words.raised(self, InvalidNeeds, needs, lambda: library.good_for([[0]], needs))
                by_words.raised(self, InvalidNeeds, needs, lambda: library.alike(ONE, needs))
            library.good_for([[1], [0, 1]], (1, 1))

    def test_arguments_stay(self):
        plan = [[0], [0, 1], [0, 1]]
        held = copy.deepcopy(plan)
        self.library.good_for(plan, (1, 1))
        self.assertEqual(plan, held)


class Limits(unittest.TestCase):
    def test_thirty_webs(self):
        names = ["".join(letters) for letters in itertools.product("abcdef", "vwxyz")]
        for web in (RICH, FULL, SKEW):
            library = Library()
            for k, name in enumerate(names):
                within_seconds(self, library.put, name, swapped(web) if k % 2 else web)
            for needs in ((1, 0), (1, 1)):
                self.assertEqual(within_seconds(self, library.alike, web, needs), sorted(names))
                found = within_seconds(self, library.good_for, [[0, 1]] * 200, needs)
                self.assertEqual(found, sorted(names) if (web, needs) != (FULL, (1, 1)) else [])
            other = within_seconds(self, library.copy)
            self.assertIs(within_seconds(self, library.__eq__, other), True)
            for _ in names:
                within_seconds(self, other.back)


if __name__ == "__main__":
    unittest.main()
