"""Stage 4: what is kept, by which strikes, and the splits that show how little it is."""

import unittest
from itertools import chain, permutations, product

from fewkept.keeping import keep_paper, kept, shows_kept, shows_splits, splits, strikes
from fewkept.nets import net
from fewkept.ways import are_ways, crossing, is_side
from tests.helper import GOOD, otherwise, refusal, refused_in_order, same, small_sets, things, unchanged
from tests.judges import right_kept, right_side, right_splits, right_ways
from tests.slow import bundles, dense_sets, slow_kept, slow_strikes, spots, subsets

AB, AC, BC = (1, 0, "a", "b"), (2, 0, "a", "c"), (3, 0, "b", "c")
AB_LATE, BD, CD = (4, 0, "a", "b"), (5, 0, "b", "d"), (5, 1, "c", "d")
SOME = [CD, AB_LATE, BC, AB, BD, AC]
COUPLE = [(cost, mark, "a", "b") for cost in (1, 2, 3) for mark in (0, 1, 2)]


def some_sets():
    """Small sets of links, some of few links, some of few places and many links."""
    return [links for links, _ in chain(list(small_sets())[::3], dense_sets())]


class Kept(unittest.TestCase):
    def test_what_is_kept(self):
        self.assertEqual(kept(SOME, 0), [AB, AC, BD])
        self.assertEqual(kept(SOME, 1), [AB, AC, BC, BD, CD])
        self.assertEqual(kept(SOME, 2), sorted(SOME))

    def test_the_paper(self):
        self.assertEqual(keep_paper([AB, AC, BC], 0), {
            AB: ("kept", ("a",)), AC: ("kept", ("a", "b")), BC: ("left", ((AB, AC),))})
        paper = keep_paper(SOME, 1)
        self.assertEqual(paper[AB_LATE], ("left", ((AB,), (AC, BC))))
        self.assertIn(paper[CD], [("kept", ("a", "b", "c")), ("kept", ("c",))])
        self.assertEqual(list(paper), sorted(SOME))

    def test_several_links_between_the_same_two_places(self):
        for r in range(6):
            self.assertEqual(kept(COUPLE, r), COUPLE[:r + 1])
            paper = keep_paper(COUPLE[::-1], r)
            for at, link in enumerate(COUPLE):
                self.assertEqual(paper[link], ("kept", ("a",)) if at <= r else
                                 ("left", tuple((row,) for row in COUPLE[:r + 1])))
                if at <= r:
                    self.assertEqual(strikes(COUPLE, r, link), tuple(COUPLE[:at]))
            self.assertEqual(splits(COUPLE, r)[1:], ((), ()))

    def test_no_links_at_all(self):
        for nothing in ([], ()):
            for r in range(6):
                self.assertTrue(same(kept(nothing, r), []))
                self.assertTrue(same(keep_paper(nothing, r), {}))
                self.assertTrue(same(splits(nothing, r), ()))
                self.assertIs(shows_kept(nothing, r, nothing, {}), True)
                self.assertIs(shows_splits(nothing, r, ()), True)
                self.assertEqual(refusal(strikes, nothing, r, AB), ("NoLink", {"at": 0}))

    def test_by_the_words_of_the_document(self):
        for links in some_sets():
            for r in range(6):
                told, paper = kept(links, r), keep_paper(links, r)
                self.assertTrue(same(told, slow_kept(links, r)))
                self.assertTrue(same(told, kept(tuple(links[::-1] * 2), r)))
                self.assertTrue(same(list(paper.items()), list(keep_paper(tuple(links[::-1] * 2), r).items())))
                self.assertTrue(same(list(paper), sorted(set(links))))
                self.assertTrue(all((word == "kept") == (link in told) for link, (word, _) in paper.items()))

    def test_just_those_that_some_strikes_bring_into_the_net(self):
        for links in some_sets()[::2]:
            for r in range(3):
                told = kept(links, r)
                for link in sorted(set(links)):
                    least = slow_strikes(links, link, r)
                    self.assertEqual(link in told, least is not None)
                    if link in told:
                        gone = strikes(links, r, link)
                        self.assertTrue(same(gone, tuple(sorted(set(gone)))))
                        self.assertEqual(len(gone), least)
                        self.assertIn(link, net(links, struck=gone))
                        self.assertTrue(all(row in told and row < link for row in gone))
                    else:
                        self.assertEqual(refusal(strikes, links, r, link), ("NoLink", {"at": 0}))

    def test_many_strikes(self):
        for links, _ in dense_sets():
            for r in (4, 5):
                for link in kept(links, r)[::3]:
                    gone = strikes(links, r, link)
                    self.assertIn(link, net(links, struck=gone))
                    if len(gone) < 5:
                        self.assertEqual(len(gone), slow_strikes(links, link, len(gone)))

    def test_what_is_forgotten_may_come_again_or_not(self):
        for links in some_sets()[::3]:
            for r in range(3):
                told = kept(links, r)
                self.assertEqual(kept(told, r), told)
                for half in (links[::2], links[1::2]):
                    self.assertEqual(kept(kept(half, r) + links, r), told)
                self.assertEqual(kept(kept(links[::2], r) + kept(links[1::2], r), r), told)


class Shown(unittest.TestCase):
    def test_true_of_what_is_told(self):
        for links in some_sets():
            for r in range(4):
                told, paper = kept(links, r), keep_paper(links, r)
                back = dict(list(paper.items())[::-1])
                for rows, ways in ((told, paper), (tuple(told), back)):
                    self.assertIs(unchanged(self, shows_kept, links, r, rows, ways), True)
                for link, (word, shown) in paper.items():
                    lesser = [row for row in told if row < link]
                    if word == "kept":
                        self.assertTrue(right_side(spots(links), *link[2:], shown))
                        self.assertTrue(is_side(links, *link[2:], shown))
                        self.assertLessEqual(len(crossing(lesser, shown)), r)
                    else:
                        self.assertTrue(right_ways(lesser, *link[2:], shown, r + 1))
                        self.assertTrue(are_ways(lesser, *link[2:], shown))

    def test_true_of_all_other_right_answers_and_false_of_wrong_ones(self):
        for links in ([AB, AC, BC], SOME[1:], [AB, AB_LATE, BC, CD], COUPLE[:4]):
            for r in range(3):
                told, paper = kept(links, r), keep_paper(links, r)
                for link in links:
                    ways = [way for many in range(1, r + 3) for way in bundles(links, *link[2:], many)]
                    shown = [*subsets(spots(links)), *ways, (), ((),)]
                    for entry in product(("kept", "left"), shown):
                        other = {**paper, link: entry}
                        self.assertIs(shows_kept(links, r, told, other), right_kept(links, r, told, other))

    def test_told_otherwise(self):
        for links in ([AB, AC, BC], [AB, AC, AB_LATE, CD], COUPLE[:4]):
            for r in range(3):
                paper = keep_paper(links, r)
                for told in subsets(sorted(links)):
                    self.assertIs(shows_kept(links, r, list(told), paper), list(told) == kept(links, r))
                    for row in permutations(told):
                        self.assertIs(shows_kept(links, r, row, paper), list(row) == kept(links, r))

    def test_false_of_a_paper_for_others_than_told(self):
        # Each entry shows what it says by what is told, but what is told is not what is kept.
        self.assertIs(shows_kept([AB], 0, [], {AB: ("left", ())}), False)
        self.assertIs(shows_kept([AB, AB_LATE], 0, [AB_LATE], {AB: ("left", ((AB_LATE,),)),
                                                                AB_LATE: ("kept", ("a",))}), False)
        self.assertIs(shows_kept([AB, AB_LATE], 1, [AB], {AB: ("kept", ("a",)), AB_LATE: ("left", ((AB,),))}), False)

    def test_one_small_change(self):
        for links, r in ((SOME, 0), (SOME, 1), (SOME, 2), (COUPLE[:4], 1), ([AB], 5)):
            told, paper = kept(links, r), keep_paper(links, r)
            for thing in otherwise(told):
                self.assertIs(shows_kept(links, r, thing, paper), False, thing)
            for thing in otherwise(paper):
                self.assertIs(shows_kept(links, r, told, thing), right_kept(links, r, told, thing), thing)

    def test_truths_are_no_numbers(self):
        link, late = (0, 1, "a", "b"), (1, 1, "a", "b")
        paper = {link: ("kept", ("a",)), late: ("left", ((link,),))}
        self.assertIs(shows_kept([link, late], 0, [link], paper), True)
        self.assertIs(shows_kept([link, late], 0, [(False, 1, "a", "b")], paper), False)
        self.assertIs(shows_kept([link, late], 0, [(0, True, "a", "b")], paper), False)
        for key in ((False, 1, "a", "b"), (0, True, "a", "b")):
            self.assertIs(shows_kept([link, late], 0, [link], {**{key: paper[link]}, late: paper[late]}), False)
            self.assertIs(shows_kept([link, late], 0, [link], {**paper, late: ("left", ((key,),))}), False)

    def test_of_anything(self):
        told, paper = kept(SOME, 1), keep_paper(SOME, 1)
        for thing in things():
            self.assertIs(unchanged(self, shows_kept, SOME, 1, thing, paper), False)
            self.assertIs(unchanged(self, shows_kept, SOME, 1, told, thing), False)
            self.assertIs(shows_kept([], 1, thing, {}), thing in ([], ()))
            self.assertIs(shows_kept([], 1, [], thing), same(thing, {}))
            self.assertIs(shows_kept(SOME, 1, [*told[:-1], thing], paper), False)
            for link, word in ((AB, "kept"), (AB_LATE, "left")):
                for entry in (thing, (word, thing), (thing, paper[link][1]), (word, (thing,)), (word, ((thing,),)),
                              (word, (thing, *paper[link][1])), (*paper[link], thing), list(paper[link])):
                    other = {**paper, link: entry}
                    self.assertIs(unchanged(self, shows_kept, SOME, 1, told, other),
                                  right_kept(SOME, 1, told, other), entry)
            if repr(thing).count("[") + repr(thing).count("{") == 0:
                self.assertIs(shows_kept(SOME, 1, told, {**paper, thing: paper[AB]}), False)
                self.assertIs(shows_kept([AB], 1, [AB], {thing: ("kept", ("a",))}), False)


def all_trees(rows, sides):
    """Trees of these sides, and of none, one within another."""
    yield ()
    for side in sides:
        within = [link for link in rows if {*link[2:]} <= {*side}]
        beyond = [link for link in rows if not {*link[2:]} & {*side}]
        if rows and len(within) + len(beyond) < len(rows):
            for first in all_trees(within, sides):
                for second in all_trees(beyond, sides):
                    yield side, first, second


class Split(unittest.TestCase):
    def test_trees(self):
        self.assertEqual(splits([AB], 0), (splits([AB], 0)[0], (), ()))
        self.assertIn(splits([AB], 0)[0], [("a",), ("b",)])
        for thing in ((("a",), (), ()), (("b",), (), ())):
            self.assertIs(shows_splits([AB], 0, thing), True)
        self.assertIs(shows_splits([AB, (9, 0, "c", "d")], 0, (("a", "b"), (("a",), (), ()), (("d",), (), ()))), True)
        self.assertIs(shows_splits([AB, (9, 0, "c", "d")], 0, (("a", "b"), (), (("d",), (), ()))), False)

    def test_true_of_what_is_told(self):
        for links in some_sets():
            for r in range(6):
                told = splits(links, r)
                self.assertTrue(right_splits(slow_kept(links, r), r, told))
                self.assertIs(unchanged(self, shows_splits, links, r, told), True)
                self.assertTrue(same(told, splits(tuple(links[::-1] * 2), r)))

    def test_as_few_are_kept_as_a_tree_of_splits_shows(self):
        for links in some_sets():
            for r in range(6):
                self.assertLessEqual(len(kept(links, r)), (r + 1) * max(0, len(spots(links)) - 1))

    def test_all_trees_of_few_places(self):
        for links in ([AB, AC, BC], [AB, AC, BC, AB_LATE], [AB, CD], [AB, BC, CD], COUPLE[:3]):
            for r in range(3):
                rows = kept(links, r)
                sides = list(subsets(spots(links)))
                for thing in all_trees(rows, sides):
                    self.assertIs(shows_splits(links, r, thing), right_splits(rows, r, thing), thing)

    def test_sides_of_no_place_and_of_all_places(self):
        for links in ([AB], SOME, [AB, CD]):
            told, names = splits(links, 1), tuple(spots(links))
            side, first, second = told
            for thing in (((), (), told), (names, told, ()), (side, ((), (), first), second),
                          (side, first, ((), (), second)), (side, (side, first, ()), second)):
                self.assertIs(shows_splits(links, 1, thing), False, thing)
                self.assertFalse(right_splits(kept(links, 1), 1, thing))

    def test_one_small_change(self):
        for links in (SOME, [AB, CD], COUPLE):
            for r in (0, 1, 5):
                for thing in otherwise(splits(links, r)):
                    self.assertIs(shows_splits(links, r, thing), right_splits(kept(links, r), r, thing), thing)

    def test_what_is_no_tree(self):
        for thing in [(), ((), (), ()), (("a", "b"), (), ()), (("a",), ()), (("a",), (), (), ()), [("a",), (), ()],
                      (["a"], (), ()), (("a",), [], ()), (("a",), (), None), (("a",), (), ((), (), ())), (("x",), (), ()),
                      (("a", "x"), (), ()), (("a",), (("a",), (), ()), ()), ("a", (), ()), None, {}, ("a",)]:
            self.assertIs(shows_splits([AB], 0, thing), False, thing)
        self.assertIs(shows_splits([AB], 0, (("a",), (), ())), True)
        self.assertIs(shows_splits([AB, AB_LATE], 1, (("a",), (), ())), True)
        # No side of a triangle is crossed by one link alone, none by all; a place of no link within is no place there.
        self.assertIs(shows_splits([AB, AC, BC], 1, (("a",), (), (("b",), (), ()))), True)
        self.assertIs(shows_splits([AB, AC, BC], 1, (("a",), (), (("a", "b"), (), ()))), False)

    def test_of_anything(self):
        for thing in things():
            self.assertIs(unchanged(self, shows_splits, [], 3, thing), same(thing, ()))
            self.assertIs(unchanged(self, shows_splits, SOME, 1, thing), False)
            for whole in ((thing, (), ()), (("a",), thing, ()), (("a",), (), thing), (("a",), (), (), thing)):
                self.assertIs(unchanged(self, shows_splits, [AB], 1, whole), right_splits([AB], 1, whole))


class Refused(unittest.TestCase):
    def calls(self):
        return {kept: {}, keep_paper: {}, shows_kept: {"told": [], "paper": {}}, strikes: {"link": AB}, splits: {},
                shows_splits: {"thing": None}}

    def test_the_first_refusal_comes(self):
        for call, more in self.calls().items():
            wrongs = [("links", [GOOD, None], ("NoLink", {"at": 1})), ("links", "ab", ("NoLink", {"at": 0})),
                      *[("r", worth, ("TooMany", {"most": 5})) for worth in (-1, 6, True, None, "1", [1])]]
            if call is strikes:
                wrongs += [("link", worth, ("NoLink", {"at": 0})) for worth in (AB_LATE, GOOD, None, [AB], (AB,))]
            refused_in_order(self, call, {"links": SOME, "r": 1, **more}, wrongs)

    def test_links_and_numbers_of_anything(self):
        for call, more in self.calls().items():
            for thing in [*things(), 6, -6]:
                self.assertEqual(refusal(call, [GOOD, GOOD, thing, None], 1, **more), ("NoLink", {"at": 2}))
                right = type(thing) is int and 0 <= thing <= 5
                self.assertEqual(refusal(call, SOME, thing, **more), None if right else ("TooMany", {"most": 5}))
                if thing not in ([], ()):
                    self.assertEqual(refusal(call, thing, 1, **more), ("NoLink", {"at": 0}))

    def test_strikes_of_anything(self):
        for thing in [*things(), AB_LATE, (1, 0, "a", "c"), list(AB), (True, 0, "a", "b"), (1, False, "a", "b")]:
            self.assertEqual(refusal(strikes, SOME, 1, thing), ("NoLink", {"at": 0}))
        self.assertEqual(strikes(SOME, 1, AB), ())


class HandedIn(unittest.TestCase):
    def test_what_is_handed_in_stays(self):
        links = [*SOME, AB]
        for r in range(6):
            for call in (kept, keep_paper, splits):
                unchanged(self, call, links, r)
            unchanged(self, strikes, links, r, AB)
            unchanged(self, shows_kept, links, r, [AB], {AB: ["kept", ["a"]]})
            unchanged(self, shows_splits, links, r, [["a"], [], {}])

    def test_what_is_told_is_new(self):
        for call in (kept, keep_paper):
            first = call(SOME, 1)
            whole = type(first)(first)
            first.clear()
            self.assertTrue(same(call(SOME, 1), whole))
        row = [AB]
        self.assertIsNot(kept(row, 0), row)

    def test_arguments_by_their_names(self):
        self.assertEqual(kept(r=0, links=SOME), [AB, AC, BD])
        self.assertEqual(keep_paper(r=0, links=[AB]), {AB: ("kept", ("a",))})
        self.assertIs(shows_kept(paper={AB: ("kept", ("a",))}, told=[AB], r=0, links=[AB]), True)
        self.assertEqual(strikes(link=BC, r=1, links=SOME), (AB,) if strikes(SOME, 1, BC) == (AB,) else (AC,))
        self.assertIs(shows_splits(thing=splits(r=1, links=SOME), r=1, links=SOME), True)
