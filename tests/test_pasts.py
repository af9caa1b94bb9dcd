"""Stage 5: of which nets, and of which of their links, one may be sure behind what was forgotten."""

import unittest
from itertools import combinations, permutations, product

from fewkept.pasts import link_sure, other_past, past_net, shows_link, shows_sure, sure
from tests.helper import GOOD, all_ways, otherwise, same, things, unchanged
from tests.judges import right_link, right_sure
from tests.slow import (alike_pairs, all_pasts, all_paths, bundles, fewest_alike, kept_sets, row_net, slow_wide,
                        spots, subsets)

# Two by two between a and b and between c and d; a link between b and c, and one between a and d.
TWICE_AB = [(0, 0, "a", "b"), (0, 1, "a", "b")]
TWICE_CD = [(0, 2, "c", "d"), (0, 3, "c", "d")]
BC, AD = (1, 0, "b", "c"), (2, 0, "a", "d")
RING = [*TWICE_AB, *TWICE_CD, BC, AD]
AB, AC = TWICE_AB[0], (3, 0, "a", "c")
SETS = list(kept_sets())


def slow_cases():
    """Kept ones, r, struck ones, with all their pasts of at most two others and the nets of these."""
    for rows, r, struck in SETS:
        pasts = all_pasts(rows, r, 2)
        yield rows, r, struck, pasts, [row_net(row, struck) for row in pasts]


class Sure(unittest.TestCase):
    def test_sure(self):
        self.assertEqual(sure([AB], 0), ("sure", {("a", "b"): (1, (AB,), ("a",))}))
        word, paper = sure(RING, 1)
        self.assertEqual((word, list(paper)), ("sure", list(combinations("abcd", 2))))
        self.assertEqual(paper[("b", "c")][:2], (5, (BC,)))
        self.assertEqual(sure(RING, 1, struck=[TWICE_AB[1], TWICE_CD[0]])[0], "sure")
        self.assertEqual(sure(RING, 1, struck=[BC])[0], "sure")

    def test_unsure(self):
        told = sure(RING, 1, struck=TWICE_AB)
        self.assertEqual(told[0], "unsure")
        self.assertEqual(told[2:5], ("a", "b", ((TWICE_AB[0],), (TWICE_AB[1],))))
        for gap in range(2, 6):
            for side in (("a",), ("a", "c", "d")):
                thing = ("unsure", gap, "a", "b", told[4], side)
                right = gap < 5 or side == ("a",)
                self.assertIs(shows_sure(RING, 1, thing, struck=TWICE_AB), right)

    def test_pairs_that_never_are_joined(self):
        rows = [(1, 0, "a", "b"), (1, 0, "c", "d")]
        word, paper = sure(rows, 1)
        self.assertEqual(word, "sure")
        self.assertEqual(paper[("a", "c")][:2], (None, None))
        # All are struck, and none of them has two ways beside: nothing may have been forgotten.
        word, paper = sure(rows, 1, struck=rows)
        self.assertEqual({thing[:2] for thing in paper.values()}, {(None, None)})
        self.assertEqual(sure(rows, 0, struck=rows)[0], "unsure")

    def test_no_links_at_all(self):
        for nothing in ([], ()):
            for struck in ([], [AB]):
                self.assertTrue(same(sure(nothing, 2, struck=struck), ("sure", {})))
                self.assertIs(shows_sure(nothing, 2, ("sure", {}), struck=struck), True)
                self.assertIsNone(other_past(nothing, 2, struck=struck))

    def test_sure_just_where_no_past_makes_another_net(self):
        words = []
        for rows, r, struck, pasts, nets in slow_cases():
            told = unchanged(self, sure, rows, r, struck=struck)
            differ = [net for net in nets if net != nets[0]]
            self.assertEqual(told[0], "unsure" if differ else "sure")
            self.assertTrue(right_sure(rows, r, struck, told))
            self.assertIs(unchanged(self, shows_sure, rows, r, told, struck=struck), True)
            self.assertTrue(same(told, sure(tuple(rows[::-1] * 2), r, struck=tuple(struck[::-1] * 2))))
            words.append(told[0])
        self.assertTrue(words.count("sure") > 50 and words.count("unsure") > 50)

    def test_sure_behind_at_most_so_many_strikes(self):
        for rows, r, _ in SETS:
            for many in range(min(r, 2) + 1):
                for struck in combinations(rows, many):
                    self.assertEqual(sure(rows, r, struck=struck)[0], "sure")

    def test_unsure_tells_a_past_with_another_net(self):
        for rows, r, struck in SETS:
            told = sure(rows, r, struck=struck)
            if told[0] == "unsure":
                _, gap, one, other, _, _ = told
                row = [*rows[:gap], (one, other), *rows[gap:]]
                self.assertNotEqual(past_net(rows, r, row, struck=struck), past_net(rows, r, rows, struck=struck))


class ShownSure(unittest.TestCase):
    def test_all_that_could_be_told_of_a_pair(self):
        for rows, r, struck in ((RING, 1, [AD]), ([AB, BC, AC], 1, [BC]), ([AB, TWICE_CD[0]], 0, []), (RING, 3, RING)):
            word, paper = sure(rows, r, struck=struck)
            self.assertEqual(word, "sure")
            ways = [(), *all_ways(rows, "a", "b"), *all_ways(rows, "a", "c"), None]
            sides = [*subsets(spots(rows)), None]
            for pair in (("a", "b"), ("a", "c")):
                for entry in product((None, *range(-1, len(rows) + 2)), ways, sides):
                    thing = ("sure", {**paper, pair: entry})
                    self.assertIs(shows_sure(rows, r, thing, struck=struck), right_sure(rows, r, struck, thing), entry)

    def test_all_that_could_be_told_of_what_is_unsure(self):
        for rows, r, struck in ((RING[:5], 1, TWICE_AB), ([AB, BC], 0, RING), ([AB, BC], 0, [])):
            for one, other in product(spots(rows), repeat=2):
                ways = [some for many in range(1, r + 3) for some in bundles(rows, one, other, many)]
                for gap, some, side in product(range(-1, len(rows) + 2), [*ways, ()], subsets(spots(rows))):
                    thing = ("unsure", gap, one, other, some, side)
                    self.assertIs(shows_sure(rows, r, thing, struck=struck), right_sure(rows, r, struck, thing), thing)

    def test_one_small_change(self):
        for rows, r, struck in ((RING, 1, []), (RING, 1, [BC]), (RING, 1, TWICE_AB), ([AB, BC], 0, [AB]),
                                ([AB, AC], 5, [])):
            told = sure(rows, r, struck=struck)
            for thing in otherwise(told):
                self.assertIs(shows_sure(rows, r, thing, struck=struck), right_sure(rows, r, struck, thing), thing)

    def test_keys_in_another_order(self):
        word, paper = sure(RING, 1)
        self.assertIs(shows_sure(RING, 1, (word, dict(list(paper.items())[::-1]))), True)

    def test_what_is_told_of_others(self):
        told = sure(RING, 1)
        self.assertIs(shows_sure(RING[:4], 1, told), False)
        self.assertIs(shows_sure(RING, 1, told, struck=[AD]), True)
        self.assertIs(shows_sure(RING, 1, told, struck=[BC]), False)
        # A later gap than the least will do as long as it is in time.
        self.assertIs(shows_sure(RING, 1, sure(RING, 1, struck=[BC])), True)
        self.assertIs(shows_sure(RING, 1, told, struck=TWICE_AB), False)
        self.assertIs(shows_sure(RING, 1, sure(RING, 1, struck=TWICE_AB)), False)

    def test_of_anything(self):
        for thing in things():
            self.assertIs(unchanged(self, shows_sure, RING, 1, thing), False)
            self.assertIs(unchanged(self, shows_sure, RING, 1, ("sure", thing)), False)
            self.assertIs(shows_sure([], 1, ("sure", thing)), same(thing, {}))
            for struck in ([], TWICE_AB):
                told = sure(RING, 1, struck=struck)
                for at in range(len(told)):
                    other = (*told[:at], thing, *told[at + 1:])
                    self.assertIs(unchanged(self, shows_sure, RING, 1, other, struck=struck),
                                  right_sure(RING, 1, struck, other), other)
            word, paper = sure(RING, 1)
            for pair in (("a", "b"), ("b", "c")):
                for entry in [thing, *[(*paper[pair][:at], thing, *paper[pair][at + 1:]) for at in range(3)]]:
                    other = ("sure", {**paper, pair: entry})
                    self.assertIs(unchanged(self, shows_sure, RING, 1, other), right_sure(RING, 1, [], other), entry)
            if repr(thing).count("[") + repr(thing).count("{") == 0:
                self.assertIs(shows_sure([AB], 0, ("sure", {thing: (1, (AB,), ("a",))})), same(thing, ("a", "b")))

    def test_a_gap_is_a_number(self):
        told = ("sure", {("a", "b"): (1, (AB,), ("a",))})
        self.assertIs(shows_sure([AB], 0, told), True)
        self.assertIs(shows_sure([AB], 0, ("sure", {("a", "b"): (True, (AB,), ("a",))})), False)
        self.assertIs(shows_sure([AB], 0, ("unsure", 1, "a", "b", ((AB,),), ("a",)), struck=[AB]), True)
        self.assertIs(shows_sure([AB], 0, ("unsure", True, "a", "b", ((AB,),), ("a",)), struck=[AB]), False)
        self.assertIs(shows_sure([AB], 0, ("unsure", 1, "b", "a", ((AB,),), ("b",)), struck=[AB]), False)


class LinkSure(unittest.TestCase):
    def test_in(self):
        for link in (TWICE_AB[0], TWICE_CD[0], BC):
            word, side, _ = link_sure(RING, 1, link)
            self.assertEqual(word, "in")
            self.assertTrue(link[2] in side and link[3] not in side)
        self.assertEqual(link_sure([AB], 0, AB), ("in", ("a",), (("a",),)))
        self.assertIs(shows_link([AB], 0, AB, ("in", ("a",), (("b",),))), True)
        self.assertIs(shows_link([AB], 0, AB, ("in", ("a",), ())), False)

    def test_open(self):
        ways = tuple((link,) for link in TWICE_AB)
        told = link_sure(RING, 1, AD, struck=TWICE_AB)
        self.assertEqual(told[0], "open")
        self.assertEqual(told[2][:2], (("a", "b", ways), BC))
        word, side, path = link_sure(RING, 1, AD, struck=TWICE_AB + TWICE_CD)
        self.assertEqual((word, side), ("open", ("a",)))
        self.assertEqual(path, (("a", "b", ways), BC, ("c", "d", tuple((link,) for link in TWICE_CD))))
        self.assertEqual(link_sure(RING, 1, AD, struck=[*TWICE_AB, BC])[0], "in")

    def test_more_steps_than_are_needed(self):
        ways_ab, ways_cd = (tuple((link,) for link in links) for links in (TWICE_AB, TWICE_CD))
        for last in (("c", "d", ways_cd), *TWICE_CD):
            thing = ("open", ("a",), (("a", "b", ways_ab), BC, last))
            self.assertIs(shows_link(RING, 1, AD, thing, struck=TWICE_AB), True)
        self.assertEqual(sum(len(step) == 3 for step in link_sure(RING, 1, AD, struck=TWICE_AB)[2]), 1)

    def test_in_just_where_each_past_has_it(self):
        counts = []
        for rows, r, struck, pasts, nets in slow_cases():
            for link in nets[0]:
                told = unchanged(self, link_sure, rows, r, link, struck=struck)
                without = [sum(len(part) == 2 for part in row) for row, net in zip(pasts, nets) if link not in net]
                self.assertEqual(told[0], "open" if fewest_alike(rows, r, link, struck) else "in")
                if told[0] == "in":
                    self.assertEqual(without, [])
                else:
                    fewest = sum(len(step) == 3 for step in told[2])
                    self.assertEqual(fewest, fewest_alike(rows, r, link, struck))
                    self.assertEqual(min(without, default=None), fewest if fewest < 3 else None)
                    counts.append(fewest)
                self.assertTrue(right_link(rows, r, link, struck, told))
                self.assertIs(unchanged(self, shows_link, rows, r, link, told, struck=struck), True)
                self.assertTrue(same(told, link_sure(tuple(rows[::-1] * 2), r, link, struck=tuple(struck[::-1] * 2))))
        self.assertTrue(counts.count(1) > 20 and counts.count(2) > 5)

    def test_a_past_with_the_steps_of_a_path_has_a_net_without_it(self):
        for rows, r, struck in SETS:
            for link in past_net(rows, r, rows, struck=struck):
                word, _, path = link_sure(rows, r, link, struck=struck)
                if word == "open":
                    gap = rows.index(link)
                    pairs = [tuple(sorted(step[:2])) for step in path if len(step) == 3]
                    row = [*rows[:gap], *pairs, *rows[gap:]]
                    self.assertNotIn(link, past_net(rows, r, row, struck=struck))

    def test_sure_of_all_links_where_the_net_is_sure(self):
        for rows, r, struck in SETS:
            if sure(rows, r, struck=struck)[0] == "sure":
                for link in past_net(rows, r, rows, struck=struck):
                    self.assertEqual(link_sure(rows, r, link, struck=struck)[0], "in")

    def test_alike_with_a_third_one(self):
        for rows, r, _ in SETS:
            alike = {*alike_pairs(rows, r, len(rows))}
            for one, two, three in permutations(spots(rows), 3):
                if {tuple(sorted((one, two))), tuple(sorted((two, three)))} <= alike:
                    self.assertIn(tuple(sorted((one, three))), alike)
                    self.assertGreater(slow_wide(rows, one, three), r)


class ShownLink(unittest.TestCase):
    def test_all_that_could_be_told_of_a_path(self):
        for rows, r, link, struck in ((RING, 1, AD, TWICE_AB), (RING, 1, AD, RING[:4]), (RING, 1, AD, RING[:5]),
                                      (RING[:4], 1, TWICE_CD[1], [TWICE_CD[0]])):
            right = 0
            for path in all_paths([row for row in rows if row < link], r, link[2], link[3]):
                for side in subsets(spots(rows)):
                    for thing in (("open", side, path), ("open", side, path[::-1]), ("open", side, path[:-1])):
                        shown = right_link(rows, r, link, struck, thing)
                        self.assertIs(shows_link(rows, r, link, thing, struck=struck), shown, thing)
                        right += shown
            self.assertEqual(right > 0, link_sure(rows, r, link, struck=struck)[0] == "open")

    def test_paths_that_come_to_a_place_twice(self):
        ways = {pair: tuple((link,) for link in links) for pair, links in (("ab", TWICE_AB), ("cd", TWICE_CD))}
        steps = [BC, TWICE_CD[0], ("a", "b", ways["ab"]), ("b", "a", ways["ab"]), ("c", "d", ways["cd"])]
        right = 0
        for many in range(6):
            for path in product(steps, repeat=many):
                thing = ("open", ("a",), path)
                shown = right_link(RING, 1, AD, TWICE_AB, thing)
                self.assertIs(shows_link(RING, 1, AD, thing, struck=TWICE_AB), shown, path)
                right += shown
        self.assertEqual(right, 2)

    def test_all_that_could_be_told_of_sides(self):
        rows = [AB, (1, 0, "b", "c"), AC]
        for r, link, struck in ((1, AC, [AB]), (1, AB, []), (1, (1, 0, "b", "c"), []), (2, AC, rows[:2])):
            right = 0
            for side in subsets("abc"):
                for sides in subsets(sorted(subsets("abc"))):
                    thing = ("in", side, sides)
                    shown = right_link(rows, r, link, struck, thing)
                    self.assertIs(shows_link(rows, r, link, thing, struck=struck), shown, thing)
                    self.assertFalse(len(sides) > 1 and shows_link(rows, r, link, ("in", side, sides[::-1]), struck=struck))
                    right += shown
            self.assertGreater(right, 0)

    def test_one_small_change(self):
        for rows, r, link, struck in ((RING, 1, BC, []), (RING, 1, AD, TWICE_AB), (RING, 1, AD, RING[:4]),
                                      (RING, 2, AD, RING[:5]), (RING[:2], 5, TWICE_AB[1], [AB])):
            told = link_sure(rows, r, link, struck=struck)
            for thing in otherwise(told):
                self.assertIs(shows_link(rows, r, link, thing, struck=struck),
                              right_link(rows, r, link, struck, thing), thing)

    def test_what_is_told_of_others(self):
        told = link_sure(RING, 1, AD, struck=TWICE_AB)
        self.assertIs(shows_link(RING, 1, AD, told, struck=[TWICE_AB[0], BC]), False)
        self.assertIs(shows_link(RING, 1, AD, told, struck=[*TWICE_AB, BC]), False)
        self.assertIs(shows_link(RING, 2, AD, told, struck=TWICE_AB), False)
        self.assertIs(shows_link(RING, 1, AD, link_sure(RING, 1, AD, struck=[BC]), struck=TWICE_AB), False)
        self.assertIs(shows_link(RING, 1, BC, told, struck=TWICE_AB), False)

    def test_of_anything(self):
        for link, struck in ((BC, []), (AD, TWICE_AB)):
            word, side, shown = told = link_sure(RING, 1, link, struck=struck)
            for thing in things():
                wholes = [thing, *[(*told[:at], thing, *told[at + 1:]) for at in range(3)], (*told, thing),
                          (word, side, (thing,)), (word, side, (*shown, thing)), (word, side, (thing, *shown)),
                          (word, side, ((thing,), *shown)), (word, (*side, thing), shown),
                          (word, side, (("a", "b", thing), *shown[1:])), (word, side, (("a", thing, ()), *shown[1:])),
                          (word, side, ((thing, "b", shown[0][-1]), *shown[1:]))]
                for whole in wholes:
                    self.assertIs(unchanged(self, shows_link, RING, 1, link, whole, struck=struck),
                                  right_link(RING, 1, link, struck, whole), whole)

    def test_truths_are_no_numbers(self):
        rows = [(0, 0, "a", "b"), (1, 0, "b", "c"), (1, 1, "b", "c"), (2, 0, "a", "c")]
        struck = rows[1:3]
        _, side, path = link_sure(rows, 1, rows[3], struck=struck)
        self.assertEqual(path[0], rows[0])
        self.assertIs(shows_link(rows, 1, rows[3], ("open", side, path), struck=struck), True)
        self.assertIs(shows_link(rows, 1, rows[3], ("open", side, ((False, 0, "a", "b"), path[1])), struck=struck), False)
        here, there, ways = path[1]
        for way in ((True, 0, "b", "c"), (1, False, "b", "c")):
            thing = ("open", side, (path[0], (here, there, ((way,), ways[1]))))
            self.assertIs(shows_link(rows, 1, rows[3], thing, struck=struck), False)
