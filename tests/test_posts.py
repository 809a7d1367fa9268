"""Promises [25], [26] and [27], with [1] to [3] for them: posts, their deeds and what undoes them."""

import inspect
import random
import unittest

import by_words
from by_words import ALL_NEEDS, NEAR, lists_in, raised, within_seconds
from hearunlike import posts
from hearunlike.errors import (InvalidHeard, InvalidNeeds, InvalidNumber, InvalidSpot, InvalidWeb, NothingToUndo, Taken,
                               Vacant)
from hearunlike.posts import Post
from hearunlike.rules import Rule
from hearunlike.webs import Web
from test_plans import NO_NEEDS, NO_RINGS, NO_WEBS, ODD, ONE, TWO
from test_where import NO_HEARD

# What is no spot of a strip of 3 pieces of a web with two places.
NO_SPOTS = ODD + [0, 1, (), (0,), (0, 0, 0), [0, 0], [[0, 0]], ((0, 0),), (3, 0), (-1, 0), (0, 2), (0, -1), (True, 0),
                  (0, False), (1, True), (None, 0), (0, None), ("0", 0), ((0,), 0), (0, [0]), {(0, 0): 1}, ONE,
                  (ONE, 0), (10 ** 19, 0), Post(TWO, 3), (Post(TWO, 3), 0), Rule([], [[0]], [])]


class Kept:
    """A post that the test keeps itself: the watchers as they were after each deed, and the deeds."""

    def __init__(self, web, n, ring):
        self.web, self.n, self.ring = web, n, ring
        self.states = [[]]
        self.deeds = []

    def watchers(self):
        return self.states[-1]

    def plan(self):
        return [[j for j in range(self.web.places) if (t, j) in self.watchers()] for t in range(self.n)]

    def error(self, deed):
        """The error that a deed raises with its value, or None."""
        if deed[0] == "back":
            return None if self.deeds else (NothingToUndo, None)
        sits = {"put": [False], "take": [True], "shift": [True, False]}[deed[0]]
        for spot, wanted in zip(deed[1:], sits):
            if spot not in by_words.spots(self.web, self.n):
                return (InvalidSpot, spot)
            if (spot in self.watchers()) != wanted:
                return (Vacant if wanted else Taken, spot)
        return None

    def do(self, deed):
        if deed[0] == "back":
            self.states.pop()
            self.deeds.pop()
            return
        now = list(self.watchers())
        if deed[0] != "put":
            now.remove(deed[1])
        if deed[0] != "take":
            now.append(deed[-1])
        self.states.append(now)
        self.deeds.append(deed)


def some_deed(kept, chance):
    """A deed that may be refused: with spots of the strip, and now and then one beyond it."""
    spots = by_words.spots(kept.web, kept.n) + [(kept.n, 0), (-1, 0), (0, kept.web.places)]
    name = chance.choice(["put", "put", "put", "take", "shift", "shift", "back"])
    return (name,) + tuple(chance.choice(spots) for _ in range({"back": 0, "shift": 2}.get(name, 1)))


def done(web, n, deeds, ring=False):
    """A post on which these deeds were done."""
    post = Post(web, n, ring=ring)
    for deed in deeds:
        getattr(post, deed[0])(*deed[1:])
    return post


class Interface(unittest.TestCase):
    def test_signatures(self):
        self.assertEqual(str(inspect.signature(Post)), "(web, n, *, ring=False)")
        wanted = {"put": "(self, spot)", "take": "(self, spot)", "shift": "(self, one, other)", "plan": "(self)",
                  "fault": "(self, needs)", "where": "(self, heard, *, lies=0)", "idle": "(self, needs)",
                  "back": "(self)", "log": "(self)", "copy": "(self)"}
        for name, signature in wanted.items():
            self.assertEqual(str(inspect.signature(vars(Post)[name])), signature, name)

    def test_defined_where_it_is_listed(self):
        self.assertEqual(Post.__module__, "hearunlike.posts")
        self.assertIs(vars(posts)["Post"], Post)
        for name in ("__len__", "__contains__", "__eq__"):
            self.assertIn(name, vars(Post))

    def test_by_name(self):
        post = Post(n=3, web=TWO, ring=True)
        self.assertIs(post.put(spot=(0, 0)), None)
        self.assertIs(post.shift(other=(1, 1), one=(0, 0)), None)
        self.assertEqual(post.plan(), [[], [1], []])
        self.assertEqual(post.fault(needs=(1, 0)), ("few", (0, 1)))
        self.assertEqual(post.where(heard=[(1, 1)], lies=0), post.where([(1, 1)]))
        self.assertEqual(post.idle(needs=(1, 0)), [])
        self.assertIs(post.take(spot=(1, 1)), None)

    def test_only_by_name_after_the_star(self):
        with self.assertRaises(TypeError):
            Post(TWO, 3, True)
        with self.assertRaises(TypeError):
            Post(TWO, 3).where([], 1)


class MakePosts(unittest.TestCase):
    def test_without_watchers(self):
        for web in (ONE, TWO):
            for n in (1, 2, 7):
                for ring in (False, True):
                    post = Post(web, n, ring=ring)
                    self.assertEqual((post.plan(), len(post), post.log()), ([[] for _ in range(n)], 0, []))
                    self.assertIs(post.web, web)
                    self.assertIs(post.ring, ring)
        self.assertIs(Post(ONE, 1).ring, False)

    def test_wrong_inputs(self):
        for web in NO_WEBS + [Post(ONE, 1), Rule([], [[0]], [])]:
            raised(self, InvalidWeb, web, lambda: Post(web, 3))
        for n in ODD + [0, -1, -10 ** 19, "3", [3], (3,), ONE]:
            raised(self, InvalidNumber, n, lambda: Post(ONE, n))
        for ring in NO_RINGS:
            raised(self, InvalidNumber, ring, lambda: Post(ONE, 3, ring=ring))

    def test_order_of_errors(self):
        raised(self, InvalidWeb, None, lambda: Post(None, None, ring=None))
        raised(self, InvalidNumber, 0, lambda: Post(ONE, 0, ring=None))
        raised(self, InvalidNumber, 1, lambda: Post(ONE, 3, ring=1))
        raised(self, InvalidNumber, 2, lambda: Post(ONE, 10 ** 19, ring=2))


class Deeds(unittest.TestCase):
    def check(self, post, kept):
        """Check that a post tells what the one of the test tells."""
        spots = by_words.spots(kept.web, kept.n)
        self.assertEqual(post.plan(), kept.plan())
        self.assertEqual(len(post), len(kept.watchers()))
        self.assertEqual(post.log(), kept.deeds)
        self.assertEqual([spot for spot in spots if spot in post], sorted(kept.watchers()))
        again = done(kept.web, kept.n, [("put", spot) for spot in kept.watchers()], kept.ring)
        self.assertTrue(post == again and again == post)

    def do(self, post, kept, deed):
        """Do a deed with both, and check the error that it raises; return whether it raised none."""
        wrong = kept.error(deed)
        call = getattr(post, deed[0])
        if wrong is None:
            self.assertIsNone(call(*deed[1:]))
            kept.do(deed)
        elif wrong[0] is NothingToUndo:
            with self.assertRaises(NothingToUndo):
                call()
        else:
            raised(self, wrong[0], wrong[1], lambda: call(*deed[1:]))
        return wrong is None

    def test_rows_of_deeds(self):
        chance = random.Random(4)
        seen = set()
        for k, web in enumerate(by_words.sample_webs()):
            for n in (1, 2, 5):
                ring = (k + n) % 2 == 0
                post, kept = Post(web, n, ring=ring), Kept(web, n, ring)
                for _ in range(60):
                    deed = some_deed(kept, chance)
                    wrong = kept.error(deed)
                    seen.add((deed[0], wrong and wrong[0].__name__))
                    self.do(post, kept, deed)
                    self.check(post, kept)
        self.assertEqual(seen, {("put", None), ("put", "InvalidSpot"), ("put", "Taken"), ("take", None),
                                ("take", "InvalidSpot"), ("take", "Vacant"), ("shift", None), ("shift", "InvalidSpot"),
                                ("shift", "Taken"), ("shift", "Vacant"), ("back", None), ("back", "NothingToUndo")})

    def test_back_to_the_beginning(self):
        chance = random.Random(8)
        for web in (ONE, TWO):
            post, kept = Post(web, 6), Kept(web, 6, False)
            good = 0
            while good < 40:
                deed = some_deed(kept, chance)
                if deed[0] != "back":
                    good += self.do(post, kept, deed)
            for _ in range(40):
                self.do(post, kept, ("back",))
                self.check(post, kept)
            self.assertEqual((post.plan(), post.log(), len(post)), ([[]] * 6, [], 0))
            for _ in range(2):
                with self.assertRaises(NothingToUndo):
                    post.back()
            self.do(post, kept, ("put", (5, 0)))
            self.check(post, kept)

    def test_copies_go_on_by_themselves(self):
        chance = random.Random(9)
        for web in (ONE, TWO):
            post, kept = Post(web, 4, ring=True), Kept(web, 4, True)
            for _ in range(20):
                self.do(post, kept, some_deed(kept, chance))
            other, held = post.copy(), Kept(web, 4, True)
            held.states, held.deeds = list(kept.states), list(kept.deeds)
            self.assertTrue(other == post)
            self.assertIs(other.web, web)
            self.assertIs(other.ring, True)
            for _ in range(60):
                self.do(post, kept, some_deed(kept, chance))
                self.check(other, held)
                self.do(other, held, some_deed(held, chance))
                self.check(post, kept)


class OneDeed(unittest.TestCase):
    def setUp(self):
        self.post = done(TWO, 3, [("put", (0, 0)), ("put", (2, 1))])
        self.log = [("put", (0, 0)), ("put", (2, 1))]

    def stays(self):
        """Check that nothing has changed since the beginning."""
        self.assertEqual(self.post.plan(), [[0], [], [1]])
        self.assertEqual(self.post.log(), self.log)
        self.assertEqual(len(self.post), 2)

    def test_put(self):
        self.assertIsNone(self.post.put((0, 1)))
        self.assertEqual(self.post.plan(), [[0, 1], [], [1]])
        self.assertEqual(self.post.log(), self.log + [("put", (0, 1))])

    def test_take(self):
        self.assertIsNone(self.post.take((0, 0)))
        self.assertEqual(self.post.plan(), [[], [], [1]])
        self.assertEqual(self.post.log(), self.log + [("take", (0, 0))])

    def test_shift(self):
        self.assertIsNone(self.post.shift((2, 1), (2, 0)))
        self.assertEqual(self.post.plan(), [[0], [], [0]])
        self.assertEqual(self.post.log(), self.log + [("shift", (2, 1), (2, 0))])
        self.assertEqual(len(self.post), 2)

    def test_refused_spots(self):
        for spot in NO_SPOTS:
            raised(self, InvalidSpot, spot, lambda: self.post.put(spot))
            raised(self, InvalidSpot, spot, lambda: self.post.take(spot))
            raised(self, InvalidSpot, spot, lambda: self.post.shift(spot, (0, 1)))
            raised(self, InvalidSpot, spot, lambda: self.post.shift((0, 0), spot))
            self.stays()

    def test_spots_beyond_a_ring(self):
        post = Post(ONE, 3, ring=True)
        for spot in ((3, 0), (-1, 0), (0, 1)):
            raised(self, InvalidSpot, spot, lambda: post.put(spot))
        self.assertEqual(post.log(), [])

    def test_taken_and_vacant(self):
        raised(self, Taken, taken := tuple([2, 1]), lambda: self.post.put(taken))
        raised(self, Vacant, vacant := tuple([2, 0]), lambda: self.post.take(vacant))
        raised(self, Vacant, vacant, lambda: self.post.shift(vacant, (0, 1)))
        raised(self, Taken, taken, lambda: self.post.shift((0, 0), taken))
        self.stays()

    def test_shift_onto_the_same_spot(self):
        one, other = tuple([0, 0]), tuple([0, 0])
        raised(self, Taken, other, lambda: self.post.shift(one, other))
        raised(self, Vacant, vacant := (1, 0), lambda: self.post.shift(vacant, tuple([1, 0])))
        self.stays()

    def test_order_of_errors_of_shift(self):
        raised(self, InvalidSpot, None, lambda: self.post.shift(None, (3, 0)))
        raised(self, InvalidSpot, None, lambda: self.post.shift(None, (2, 1)))
        raised(self, Vacant, one := (1, 1), lambda: self.post.shift(one, None))
        raised(self, Vacant, one, lambda: self.post.shift(one, (2, 1)))
        raised(self, InvalidSpot, None, lambda: self.post.shift((2, 1), None))
        self.stays()

    def test_refused_deeds_are_not_undone(self):
        for refused in (lambda: self.post.put((0, 0)), lambda: self.post.take((1, 1)), lambda: self.post.shift(0, 0)):
            self.assertRaises(ValueError, refused)
        self.post.back()
        self.assertEqual(self.post.plan(), [[0], [], []])
        self.assertRaises(ValueError, lambda: self.post.put((0, 0)))
        self.post.back()
        self.assertEqual(self.post.plan(), [[], [], []])
        self.assertRaises(ValueError, lambda: self.post.take((0, 0)))
        self.assertRaises(NothingToUndo, self.post.back)

    def test_a_watcher_that_comes_back(self):
        self.post.take((0, 0))
        self.post.back()
        self.stays()
        self.post.shift((0, 0), (1, 1))
        self.post.back()
        self.stays()
        self.post.put((1, 1))
        self.post.back()
        self.stays()


class Told(unittest.TestCase):
    def test_in_for_values_of_all_kinds(self):
        post = done(TWO, 3, [("put", spot) for spot in by_words.spots(TWO, 3)])
        for value in NO_SPOTS:
            self.assertIs(value in post, False, value)
        self.assertIs((2, 1) in post, True)
        post.take((2, 1))
        self.assertIs((2, 1) in post, False)
        self.assertIs((1, 0) in Post(ONE, 3), False)

    def test_told_lists_are_changed_by_the_caller(self):
        post = done(TWO, 2, [("put", (0, 0)), ("shift", (0, 0), (1, 1)), ("put", (0, 0)), ("take", (0, 0))])
        other = post.copy()
        for told in (post, other):
            plan = told.plan()
            plan[1].clear()
            plan[0].append(0)
            plan.append([0])
            told.log().clear()
            told.log().append(("put", (0, 0)))
        for told in (post, other):
            self.assertEqual(told.plan(), [[], [1]])
            self.assertEqual(len(told.log()), 4)
            told.back()
            self.assertEqual(told.plan(), [[0], [1]])

    def test_no_list_twice(self):
        post = done(TWO, 4, [("put", (0, 0)), ("put", (3, 1))])
        found = []
        for _ in range(2):
            found += lists_in([post.plan(), post.log(), post.where([], lies=3), post.idle((1, 0)), post.copy().plan(),
                               post.copy().log()])
        self.assertEqual(len({id(x) for x in found}), len(found))

    def test_kinds_of_results(self):
        post = done(TWO, 3, [("put", (0, 0)), ("shift", (0, 0), (1, 0)), ("take", (1, 0))])
        for deed, kinds in zip(post.log(), ([str, tuple], [str, tuple, tuple], [str, tuple])):
            self.assertIs(type(deed), tuple)
            self.assertEqual([type(x) for x in deed], kinds)

    def test_heard_list_and_needs_stay(self):
        post = done(ONE, 4, [("put", (1, 0)), ("put", (2, 0))])
        heard = [(1, 0), (2, 0)]
        post.where(heard, lies=2)
        self.assertEqual(heard, [(1, 0), (2, 0)])


class FaultWhereIdle(unittest.TestCase):
    def test_by_words(self):
        chance = random.Random(10)
        for web, plan, ring in by_words.sample_cases(5, 3):
            post = done(web, len(plan), [("put", spot) for spot in by_words.watchers(plan)], ring)
            self.assertEqual(post.plan(), plan)
            for needs in chance.sample(ALL_NEEDS, 5):
                self.assertEqual(post.fault(needs), by_words.fault(web, plan, needs, ring))
                self.assertEqual(post.idle(needs), by_words.idle(web, plan, needs, ring))
            heard = [w for w in by_words.watchers(plan) if chance.random() < 0.5]
            for told in (heard, by_words.hearers(web, plan, (0, 0), ring)):
                self.assertEqual(post.where(told), by_words.where(web, plan, told, 0, ring))
                for lies in range(4):
                    self.assertEqual(post.where(told, lies=lies), by_words.where(web, plan, told, lies, ring))

    def test_row_and_ring(self):
        deeds = [("put", (t, 0)) for t in (0, 1, 2, 4, 5)]
        row, ring = done(ONE, 6, deeds), done(ONE, 6, deeds, True)
        self.assertEqual((row.fault((1, 1)), ring.fault((1, 1))), (("alike", (4, 0), (5, 0)), None))
        self.assertEqual((row.where([(4, 0), (5, 0)]), ring.where([(4, 0), (5, 0)])), ([(4, 0), (5, 0)], [(4, 0)]))
        self.assertEqual((row.idle((1, 0)), ring.idle((1, 0))),
                         ([(0, 0), (1, 0), (2, 0), (4, 0), (5, 0)], [(0, 0), (1, 0), (2, 0), (4, 0), (5, 0)]))
        self.assertEqual((row.idle((1, 1)), ring.idle((1, 1))), ([], [(1, 0), (2, 0), (4, 0), (5, 0)]))

    def test_they_go_by_the_plan_of_now(self):
        post = Post(ONE, 3)
        self.assertEqual(post.fault((1, 0)), ("few", (0, 0)))
        post.put((1, 0))
        self.assertIsNone(post.fault((1, 0)))
        self.assertEqual(post.where([(1, 0)]), [(0, 0), (1, 0), (2, 0)])
        post.put((0, 0))
        self.assertEqual(post.idle((1, 0)), [(0, 0)])
        post.back()
        self.assertEqual(post.idle((1, 0)), [])
        raised(self, InvalidHeard, heard := [(0, 0)], lambda: post.where(heard))

    def test_invalid_needs(self):
        for needs in NO_NEEDS:
            for post in (Post(ONE, 3), Post(TWO, 3, ring=True)):
                raised(self, InvalidNeeds, needs, lambda: post.fault(needs))
                raised(self, InvalidNeeds, needs, lambda: post.idle(needs))

    def test_invalid_heard(self):
        post = done(ONE, 6, [("put", (t, 0)) for t in (0, 1, 2, 4, 5)])
        for heard in NO_HEARD:
            raised(self, InvalidHeard, heard, lambda: post.where(heard))
        self.assertEqual(len(post.log()), 5)

    def test_invalid_lies(self):
        post = done(ONE, 3, [("put", (1, 0))])
        for lies in [None, True, False, -1, 4, 10 ** 19, "1", [1], (1,), {}, ONE]:
            raised(self, InvalidNumber, lies, lambda: post.where([], lies=lies))
            raised(self, InvalidHeard, heard := [None], lambda: post.where(heard, lies=lies))


class EqualPosts(unittest.TestCase):
    def test_plans_count_and_deeds_do_not(self):
        one = done(ONE, 3, [("put", (0, 0)), ("put", (1, 0))])
        other = done(ONE, 3, [("put", (1, 0)), ("put", (2, 0)), ("shift", (2, 0), (0, 0))])
        self.assertTrue(one == other)
        self.assertFalse(one != other)
        other.back()
        self.assertFalse(one == other)
        self.assertTrue(one != other)

    def test_equal_webs(self):
        self.assertTrue(Post(Web(1, NEAR), 3) == Post(Web(1, NEAR[::-1]), 3))

    def test_unequal(self):
        self.assertFalse(Post(ONE, 3) == Post(Web(1, []), 3))
        self.assertFalse(Post(ONE, 3) == Post(Web(2, NEAR), 3))
        self.assertFalse(Post(ONE, 3) == Post(ONE, 4))
        self.assertFalse(Post(ONE, 3) == Post(ONE, 3, ring=True))
        self.assertTrue(Post(ONE, 3, ring=True) == Post(ONE, 3, ring=True))

    def test_equal_to_no_other_object(self):
        post = Post(ONE, 2)
        for other in ODD + [0, 1, [[], []], ONE, Rule([], [[], []], []), Taken(post)]:
            self.assertIs(post == other, False)
            self.assertIs(post != other, True)


class Limits(unittest.TestCase):
    def test_three_hundred_deeds(self):
        wide = Web(1, [(0, 0, d) for d in range(-2, 3)])
        full = Web(2, [(i, j, d) for i in (0, 1) for j in (0, 1) for d in (-1, 0, 1)])
        for web in (wide, full):
            for n, ring in ((200, False), (60, True)):
                spots = by_words.spots(web, n)[:250]
                deeds = [("put", spot) for spot in spots] + [("take", spot) for spot in spots[:300 - len(spots)]]
                post = within_seconds(self, done, web, n, deeds, ring)
                for call in (post.plan, post.log, post.copy, post.__len__):
                    within_seconds(self, call)
                self.assertIs(within_seconds(self, post.__eq__, post.copy()), True)
                for needs in ((1, 1), (3, 6)):
                    within_seconds(self, post.fault, needs)
                    within_seconds(self, post.idle, needs)
                within_seconds(self, post.where, by_words.watchers(post.plan()), lies=3)
                within_seconds(self, lambda: [post.back() for _ in deeds])
                self.assertRaises(NothingToUndo, post.back)


if __name__ == "__main__":
    unittest.main()
