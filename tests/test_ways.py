"""Stage 3: ways without a common link, and sides."""

import random
import unittest
from itertools import chain, combinations, permutations, product

from fewkept.ways import apart, are_ways, crossing, is_side, wide
from tests.helper import GOOD, all_ways, otherwise, refusal, refused_in_order, same, small_sets, things, unchanged
from tests.judges import right_side, right_ways
from tests.slow import all_sides, bundles, crossers, dense_sets, least_cross, slow_wide, spots, subsets

AB, AC, BC = (1, 0, "a", "b"), (2, 0, "a", "c"), (3, 0, "b", "c")
AB_LATE, BD, CD = (4, 0, "a", "b"), (5, 0, "b", "d"), (5, 1, "c", "d")
SOME = [CD, AB_LATE, BC, AB, BD, AC]
FAR = (9, 0, "x", "y")


def some_sets():
    """Small sets of links, some of few links, some of few places and many links."""
    return [links for links, _ in chain(list(small_sets())[::3], dense_sets())]


class Apart(unittest.TestCase):
    def test_ways(self):
        self.assertEqual(apart(SOME, "a", "d", 1), ("ways", ((AB, BD),)))
        told = apart(SOME, "a", "d", 2)
        self.assertIn(told[1], [((AB, BD), (AC, CD)), ((AC, CD), (AB_LATE, BD)), ((AB, BC, CD), (AB_LATE, BD)),
                                ((AB, BD), (AB_LATE, BC, CD)), ((AC, BC, BD), (AC, CD))])
        self.assertEqual(apart(SOME, "b", "a", 3), ("ways", ((AB,), (BC, AC), (AB_LATE,))))

    def test_sides(self):
        self.assertEqual(apart(SOME, "d", "a", 3), ("side", ("d",)))
        self.assertEqual(apart([AB, FAR], "a", "b", 2)[0], "side")
        self.assertEqual(apart([AB, FAR], "a", "x", 1)[0], "side")

    def test_several_links_between_the_same_two_places(self):
        rows = [(cost, mark, "a", "b") for cost in (1, 2, 3) for mark in (0, 1, 2)]
        self.assertEqual(apart(rows, "a", "b", 9), ("ways", tuple((row,) for row in rows)))
        self.assertEqual(apart(rows[1:], "a", "b", 9), ("side", ("a",)))
        self.assertEqual(apart(rows[1:], "b", "a", 9), ("side", ("b",)))
        self.assertEqual(apart(rows[1:], "b", "a", 8), ("ways", tuple((row,) for row in rows[1:])))
        self.assertEqual((wide(rows, "a", "b"), wide(rows[3:], "b", "a")), (9, 6))

    def test_places_that_no_links_join(self):
        for one, other in (("a", "x"), ("y", "b"), ("x", "c")):
            self.assertEqual(wide([*SOME, FAR], one, other), 0)
            for many in (1, 9):
                word, side = apart([*SOME, FAR], one, other, many)
                self.assertEqual(word, "side")
                self.assertTrue(right_side([*"abcdxy"], one, other, side))
                self.assertEqual(crossing([*SOME, FAR], side), [])

    def told_of_pairs(self, pairs, one, other, most):
        """Ways by links of these pairs of places, whichever of these are the lesser ones."""
        dice = random.Random(31)
        for _ in range(60):
            links = [(cost, 0, *sorted(pair)) for cost, pair in enumerate(dice.sample(pairs, len(pairs)))]
            for many in range(1, most + 1):
                word, ways = apart(links, one, other, many)
                self.assertEqual(word, "ways")
                self.assertTrue(right_ways(links, one, other, ways, many))
            word, side = apart(links, one, other, most + 1)
            self.assertEqual(word, "side")
            self.assertEqual(len(crossing(links, side)), most)

    def test_ways_that_must_give_way(self):
        # The way of fewest links from a to f, by c and d, shuts both of the two ways that there are.
        self.told_of_pairs(["ac", "cd", "df", "ab", "bg", "dg", "ce", "eh", "fh"], "a", "f", 2)

    def test_links_that_are_gone_by_both_ways(self):
        # The way of fewest links goes from c to e, the long ones from e to c: one takes that link out, one goes by it.
        self.told_of_pairs(["ac", "ce", "be", *["af", "fg", "gh", "eh", "ci", "ij", "jk", "bk"] * 2], "a", "b", 3)

    def test_ways_that_could_lead_round(self):
        # Here the long ways leave c, d and e to be gone round.
        pairs = ["ac", "ac", "ce", "cd", "de", "eb", "eb", *["af", "fg", "gh", "eh", "ci", "ij", "jk", "bk"] * 2]
        self.told_of_pairs(pairs, "a", "b", 4)

    def test_by_slow_reckoning(self):
        for links in some_sets():
            for one, other in permutations(spots(links), 2):
                most = slow_wide(links, one, other)
                self.assertEqual(least_cross(links, one, other), most)
                self.assertTrue(same(wide(links, one, other), most))
                for many in range(1, 10):
                    word, shown = told = apart(links, one, other, many)
                    self.assertTrue(same(told, apart(tuple(links[::-1] * 2), one, other, many)))
                    if many <= most:
                        self.assertTrue(word == "ways" and right_ways(links, one, other, shown, many))
                        self.assertTrue(are_ways(links, one, other, shown))
                    else:
                        self.assertTrue(word == "side" and right_side(spots(links), one, other, shown))
                        self.assertTrue(is_side(links, one, other, shown))
                        self.assertEqual(len(crossing(links, shown)), most)


class Judged(unittest.TestCase):
    def test_all_ways_side_by_side(self):
        for links in some_sets()[::9]:
            for one, other in permutations(spots(links), 2):
                for many in range(1, slow_wide(links, one, other) + 1):
                    for ways in list(bundles(links, one, other, many))[:60]:
                        self.assertIs(are_ways(links, one, other, ways), True)
                        back = all(len(way) == 1 for way in ways)
                        self.assertIs(are_ways(links, other, one, ways), back)
                        if many > 1:
                            self.assertIs(are_ways(links, one, other, ways[::-1]), False)

    def test_every_few_ways_of_all(self):
        ways = sorted(all_ways(SOME, "a", "d"))
        for many in range(3):
            for some in product(ways, repeat=many):
                self.assertIs(are_ways(SOME, "a", "d", some), right_ways(SOME, "a", "d", some))

    def test_one_small_change_of_ways(self):
        for one, other, many in (("a", "d", 1), ("a", "d", 2), ("b", "a", 3)):
            _, ways = apart(SOME, one, other, many)
            for thing in otherwise(ways):
                self.assertIs(are_ways(SOME, one, other, thing), right_ways(SOME, one, other, thing), thing)

    def test_what_are_no_ways(self):
        for thing in [(), [(AB,)], ([AB],), (AB,), ((),), ((AB,), (AB,)), ((AB,), (AB, BC, AC)), ((AB, AB),),
                      ((AB_LATE,), (AB,)), ((AC, BC, AB_LATE, AC, BC),), ((AC, CD, CD, BC),), ((BC, AC),), ((AC,),),
                      ((AB, BD, CD, BC),), (((1, 9, "a", "b"),),), (((True, 0, "a", "b"),),), {(AB,): 1}]:
            self.assertIs(are_ways(SOME, "a", "b", thing), False, thing)
        self.assertIs(are_ways(SOME, "a", "b", ((AB,), (AC, BC), (AB_LATE,))), True)
        self.assertIs(are_ways(SOME, "a", "b", ((AC, CD, BD),)), True)

    def test_ways_of_anything(self):
        for thing in things():
            for whole in (thing, (thing,), ((thing,),), ((AB,), thing), ((AB,), (thing,)), ((AC, thing),)):
                self.assertIs(unchanged(self, are_ways, SOME, "a", "b", whole), False)

    def test_every_tuple_of_places_as_a_side(self):
        for one, other in permutations("abcd", 2):
            right = set(all_sides("abcd", one, other))
            for many in range(5):
                for thing in product("abcd", repeat=many):
                    self.assertIs(is_side(SOME, one, other, thing), thing in right)

    def test_sides_by_slow_reckoning(self):
        for links in some_sets()[::5]:
            for one, other in permutations(spots(links), 2):
                for part in subsets(spots(links)):
                    self.assertIs(is_side(links, one, other, part), right_side(spots(links), one, other, part))

    def test_sides_of_anything(self):
        for thing in [["a"], "a", ("b", "a"), ("a", "a"), ("a", "x"), ("a", 1), ("a", None), ("a", ("b",)), ("d",), (),
                      ("a", "d"), {"a": 1}, ("b", "c")]:
            self.assertIs(is_side(SOME, "a", "d", thing), False, thing)
        for thing in things():
            self.assertIs(unchanged(self, is_side, SOME, "a", "d", thing), same(thing, ("a",)) or same(thing, ("a", "b")))
            self.assertIs(unchanged(self, is_side, SOME, "a", "d", ("a", thing)), False)
            self.assertIs(unchanged(self, is_side, SOME, "a", "d", (thing, "b")), thing == "a")


class Crossing(unittest.TestCase):
    def test_links_that_cross(self):
        self.assertEqual(crossing(SOME, ("a",)), [AB, AC, AB_LATE])
        self.assertEqual(crossing(SOME, ["b", "a"]), [AC, BC, BD])
        self.assertEqual(crossing(SOME, ("a", "d")), [AB, AC, AB_LATE, BD, CD])

    def test_sides_of_any_places(self):
        for nothing in ([], (), ["x"], ("x", "zzzzzz"), ["a", "b", "c", "d"], ("d", "c", "b", "a", "a", "x")):
            self.assertTrue(same(crossing(SOME, nothing), []))
        self.assertEqual(crossing(SOME, ["c", "x", "a", "c"]), crossing(SOME, ("a", "c")))
        self.assertTrue(same(crossing([], ["a"]), []))

    def test_by_slow_reckoning(self):
        for links in some_sets():
            for part in subsets([*spots(links), "x"]):
                self.assertTrue(same(crossing(links, list(part)[::-1]), crossers(links, part)))
                self.assertTrue(same(crossing(tuple(links), part), crossers(links, part)))


class Refused(unittest.TestCase):
    def calls(self):
        return {apart: {"many": 1}, wide: {}, are_ways: {"thing": None}, is_side: {"thing": None}}

    def test_the_first_refusal_comes(self):
        places = [(worth, ("NoPlace", {"place": worth})) for worth in ("x", None, 0, "A", ["a"], GOOD)]
        for call, more in self.calls().items():
            wrongs = [("links", [GOOD, None], ("NoLink", {"at": 1})), ("links", 5, ("NoLink", {"at": 0})),
                      *[("one", *place) for place in places], *[("other", *place) for place in places],
                      ("other", "a", ("NoPlace", {"place": "a"}))]
            if call is apart:
                wrongs += [("many", worth, ("TooMany", {"most": 9})) for worth in (0, 10, True, None)]
            refused_in_order(self, call, {"links": SOME, "one": "a", "other": "d", **more}, wrongs)

    def test_links_and_places_of_anything(self):
        for call, more in self.calls().items():
            for thing in things():
                self.assertEqual(refusal(call, [GOOD, GOOD, thing, None], "a", "b", **more), ("NoLink", {"at": 2}))
                self.assertEqual(refusal(call, SOME, thing, "b", **more), ("NoPlace", {"place": thing}))
                self.assertEqual(refusal(call, SOME, "b", thing, **more), ("NoPlace", {"place": thing}))
                if thing not in ([], ()):
                    self.assertEqual(refusal(call, thing, "a", "b", **more), ("NoLink", {"at": 0}))
            self.assertEqual(refusal(call, [], "a", "b", **more), ("NoPlace", {"place": "a"}))
            self.assertEqual(refusal(call, (), None, None, **more), ("NoPlace", {"place": None}))

    def test_many_of_anything(self):
        for thing in [*things(), 2, 9, 10, -9]:
            right = type(thing) is int and 1 <= thing <= 9
            for one, other in (("a", "d"), ("d", "c")):
                told = None if right else ("TooMany", {"most": 9})
                self.assertEqual(refusal(apart, SOME, one, other, thing), told)

    def test_crossing_of_what_are_no_links(self):
        for thing in things():
            self.assertEqual(refusal(crossing, [GOOD, thing], ["a"]), ("NoLink", {"at": 1}))
            if thing not in ([], ()):
                self.assertEqual(refusal(crossing, thing, ["a"]), ("NoLink", {"at": 0}))


class HandedIn(unittest.TestCase):
    def test_what_is_handed_in_stays(self):
        links, side = [*SOME, AB], ["d", "a", "a"]
        for many in (1, 3, 9):
            unchanged(self, apart, links, "a", "d", many)
        for call, more in ((wide, ("a", "d")), (crossing, (side,)), (are_ways, ("a", "b", [([AB],)])),
                           (is_side, ("a", "b", ["a", ["b"]]))):
            unchanged(self, call, links, *more)

    def test_what_is_told_is_new(self):
        first = crossing(SOME, ["a"])
        first.clear()
        self.assertEqual(crossing(SOME, ["a"]), [AB, AC, AB_LATE])
        row = [AB]
        self.assertIsNot(crossing(row, ["a"]), row)

    def test_arguments_by_their_names(self):
        self.assertEqual(apart(many=9, other="a", one="d", links=SOME), ("side", ("d",)))
        self.assertEqual(wide(other="a", one="d", links=SOME), 2)
        self.assertEqual(crossing(side=["d"], links=SOME), [BD, CD])
        self.assertIs(are_ways(thing=((AB,),), other="b", one="a", links=SOME), True)
        self.assertIs(is_side(thing=("a",), other="b", one="a", links=SOME), True)

    def test_the_same_is_told_in_any_order_of_links(self):
        for order in combinations(list(permutations(SOME))[::37], 2):
            for one, other, many in (("a", "d", 2), ("d", "b", 2), ("a", "c", 9), ("c", "b", 3)):
                told = [apart(links, one, other, many) for links in order]
                self.assertTrue(same(*told))
