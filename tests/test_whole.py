"""The whole program: a question asked again behind others, and behind changed lists, has the same answer."""

import ast
import copy
import os
import random
import unittest

import hearunlike
from by_words import lists_in
from hearunlike import errors
from hearunlike.lengths import is_rate_paper, lengths, rate, rate_paper, standings
from hearunlike.library import Library
from hearunlike.mending import mended, parted
from hearunlike.plans import fault, hearers, idle, is_good, is_plan, two, vital, where
from hearunlike.posts import Post
from hearunlike.rules import Rule, rule_fault
from hearunlike.standings import how_many, least, least_plan, plan_at, price
from hearunlike.texts import read_plan, text_of
from hearunlike.webs import Web
from test_standings import RICH, SKEW, WEBS


def fresh(web):
    return Web(web.places, web.hears())


def questions_of(web, needs, prices, plan):
    """Tuples (name, question): each question asks a web, with new lists each time."""
    return [
        ("fault", lambda web: fault(web, copy.deepcopy(plan), needs)),
        ("is_good", lambda web: is_good(web, copy.deepcopy(plan), needs, ring=True)),
        ("is_plan", lambda web: is_plan(web, copy.deepcopy(plan))),
        ("hearers", lambda web: hearers(web, copy.deepcopy(plan), (1, 0), ring=True)),
        ("where", lambda web: where(web, copy.deepcopy(plan), [], lies=2)),
        ("two", lambda web: two(web, copy.deepcopy(plan), [])),
        ("idle", lambda web: idle(web, copy.deepcopy(plan), needs)),
        ("vital", lambda web: vital(web, 5, needs)),
        ("audible", lambda web: web.audible(3, (1, 0), ring=True)),
        ("hears", lambda web: web.hears()),
        ("rule_fault", lambda web: rule_fault(web, Rule(copy.deepcopy(plan), [[0]], []), needs)),
        ("post", lambda web: posted(web, plan).plan()),
        ("price", lambda web: price(web, list(prices), copy.deepcopy(plan))),
        ("least", lambda web: least(web, needs, list(prices), 7)),
        ("least far", lambda web: least(web, needs, list(prices), 10 ** 15)),
        ("least ring", lambda web: least(web, needs, list(prices), 6, ring=True)),
        ("least_plan", lambda web: least_plan(web, needs, list(prices), 6)),
        ("how_many", lambda web: how_many(web, needs, list(prices), 6, ring=True)),
        ("plan_at", lambda web: plan_at(web, (1, 0), list(prices), 6, 0) if web.hears() else None),
        ("lengths", lambda web: lengths(web, needs, list(prices))),
        ("standings", lambda web: standings(web, needs)),
        ("rate", lambda web: rate(web, needs, list(prices))),
        ("rate_paper", lambda web: rate_paper(web, needs, list(prices))),
        ("is_rate_paper", lambda web: is_rate_paper(web, needs, list(prices), (1, 2), ([[0]], []))),
        ("mended", lambda web: mended(web, copy.deepcopy(plan), needs, list(prices))),
        ("parted", lambda web: parted(web, Web(web.places, web.hears()[1:]), needs)),
        ("library", lambda web: kept(web).alike(web, needs)),
        ("good_for", lambda web: kept(web).good_for(copy.deepcopy(plan), needs)),
        ("text", lambda web: read_plan(text_of(copy.deepcopy(plan), web.places), web.places)),
    ]


def posted(web, plan):
    post = Post(web, len(plan))
    for t, piece in enumerate(plan):
        for j in piece:
            post.put((t, j))
    return post


def kept(web):
    library = Library()
    library.put("web", web)
    library.put("other", Web(web.places, web.hears()[:1]))
    return library


def answer_of(call):
    try:
        return call()
    except errors.WatchError as error:
        return type(error)


class AskedAgain(unittest.TestCase):
    def test_behind_other_questions_and_changed_lists(self):
        chance = random.Random(1)
        asked = []
        for web in [WEBS[4], WEBS[6], RICH, SKEW, WEBS[9]]:
            for needs in ((1, 1), (1, 0)):
                prices = [chance.randint(0, 9) for _ in range(web.places)]
                plan = [[j for j in range(web.places) if chance.random() < 0.8] for _ in range(4)]
                for name, question in questions_of(web, needs, prices, plan):
                    asked.append((name, web, question, copy.deepcopy(answer_of(lambda: question(fresh(web))))))
        for _ in range(2):
            chance.shuffle(asked)
            for name, web, question, wanted in asked:
                found = answer_of(lambda: question(web))
                self.assertEqual(found, wanted, name)
                for part in lists_in(found):
                    part.append("changed")

    def test_no_list_twice_in_a_result(self):
        chance = random.Random(2)
        for web in (WEBS[4], RICH):
            plan = [[j for j in range(web.places) if chance.random() < 0.9] for _ in range(5)]
            for name, question in questions_of(web, (1, 1), [1, 1][:web.places], plan):
                found = lists_in(answer_of(lambda: question(web))) + lists_in(answer_of(lambda: question(web)))
                self.assertEqual(len({id(part) for part in found}), len(found), name)

    def test_lists_that_are_changed_behind_a_call(self):
        hears, prices, plan = RICH.hears(), [3, 2], [[0], [], [1], [0, 1]]
        web = Web(2, hears)
        wanted = (lengths(web, (1, 1), prices), mended(web, plan, (1, 1), prices), least(web, (1, 1), prices, 30))
        hears.clear()
        self.assertEqual(web.hears(), RICH.hears())
        prices[0] = 0
        plan[1].append(0)
        changed = (lengths(web, (1, 1), prices), mended(web, plan, (1, 1), prices), least(web, (1, 1), prices, 30))
        self.assertEqual(changed, (lengths(RICH, (1, 1), [0, 2]), mended(RICH, [[0], [0], [1], [0, 1]], (1, 1), [0, 2]),
                                   least(RICH, (1, 1), [0, 2], 30)))
        prices[0] = 3
        plan[1].clear()
        again = (lengths(web, (1, 1), prices), mended(web, plan, (1, 1), prices), least(web, (1, 1), prices, 30))
        self.assertEqual(again, wanted)


class Files(unittest.TestCase):
    def trees(self):
        folder = os.path.dirname(hearunlike.__file__)
        for name in sorted(os.listdir(folder)):
            if name.endswith(".py"):
                with open(os.path.join(folder, name), encoding="ascii") as file:
                    text = file.read()
                yield name, text, ast.parse(text)

    def test_sizes(self):
        for name, text, tree in self.trees():
            rows = text.split("\n")
            self.assertLess(len(rows), 400, name)
            self.assertLessEqual(max(len(row) for row in rows), 120, name)
            self.assertNotIn("\t", text)
            for node in ast.walk(tree):
                if isinstance(node, ast.FunctionDef):
                    self.assertLessEqual(node.end_lineno - node.lineno + 1, 40, (name, node.name))

    def test_imports_come_from_the_package(self):
        for name, _, tree in self.trees():
            for node in ast.walk(tree):
                self.assertNotIsInstance(node, ast.Import)
                if isinstance(node, ast.ImportFrom):
                    self.assertTrue(node.module == "math" or node.module.startswith("hearunlike."), name)


if __name__ == "__main__":
    unittest.main()
