"""Stage 5: when places are joined, rows that are pasts, and what stage 5 refuses."""

import unittest
from itertools import combinations, permutations, product

from fewkept.nets import net
from fewkept.pasts import between, is_past, link_sure, other_past, past_net, shows_link, shows_sure, sure
from tests.helper import GOOD, otherwise, refusal, refused_in_order, same, things, unchanged
from tests.slow import all_pasts, gaps_between, kept_sets, pairs_of, row_net, slow_row, spots

TWICE_AB = [(0, 0, "a", "b"), (0, 1, "a", "b")]
TWICE_CD = [(0, 2, "c", "d"), (0, 3, "c", "d")]
BC, AD = (1, 0, "b", "c"), (2, 0, "a", "d")
RING = [*TWICE_AB, *TWICE_CD, BC, AD]
FAR = (5, 5, "x", "y")
SETS = list(kept_sets())


class Between(unittest.TestCase):
    def test_gaps(self):
        self.assertEqual(between(RING, 1, "a", "b"), (1, 1))
        self.assertEqual(between(RING, 1, "b", "a", struck=TWICE_AB), (2, 6))
        self.assertEqual(between(RING, 1, "a", "d"), (5, 5))
        self.assertEqual(between(RING, 1, "a", "d", struck=TWICE_AB), (5, 6))
        self.assertEqual(between(RING, 1, "a", "d", struck=RING[:4]), (5, 6))
        self.assertEqual(between(RING, 1, "b", "c", struck=[BC]), (6, 6))

    def test_places_that_are_never_joined(self):
        rows = [*RING, FAR]
        self.assertTrue(same(between(rows, 1, "a", "x"), (None, None)))
        self.assertEqual(between(rows, 1, "a", "x", struck=rows), (None, None))
        self.assertEqual(between(rows, 1, "x", "y", struck=rows), (None, None))
        self.assertEqual(between(rows, 1, "a", "b", struck=rows), (2, None))
        self.assertEqual(between(rows, 1, "a", "c", struck=rows), (6, None))
        self.assertEqual(between(rows, 1, "y", "x"), (7, 7))

    def test_by_slow_reckoning(self):
        for rows, r, struck in SETS:
            for one, other in permutations(spots(rows), 2):
                told = unchanged(self, between, rows, r, one, other, struck=struck)
                self.assertTrue(same(told, gaps_between(rows, r, one, other, struck)))
                self.assertEqual(told, between(tuple(rows[::-1] * 2), r, one, other, struck=tuple(struck[::-1])))

    def test_what_pasts_nets_join(self):
        for rows, r, struck in SETS[::2]:
            pasts = all_pasts(rows, r, 2 if len(rows) < 6 else 1)
            for one, other in pairs_of(rows):
                first, last = between(rows, r, one, other, struck=struck)
                gaps = [self.gap_of(row, row_net(row, struck), one, other) for row in pasts]
                known = [gap for gap in gaps if gap is not None]
                if last is not None:
                    self.assertEqual((max(known), len(known)), (last, len(pasts)))
                if first is None:
                    self.assertEqual(known, [])
                elif known:
                    self.assertGreaterEqual(min(known), first)
                self.assertFalse(last is None and len(known) == len(pasts))

    def gap_of(self, row, chosen, one, other):
        """The least gap ahead of which a past's net joins two places; None where it doesn't."""
        names = {one}
        for at in range(len(row) + 1):
            ahead = [part[-2:] for part in row[:at] if part in chosen]
            names = {one}
            while any(len({*pair} & names) == 1 for pair in ahead):
                names |= {name for pair in ahead if {*pair} & names for name in pair}
            if other in names:
                return sum(len(part) == 4 for part in row[:at])
        return None


class Rows(unittest.TestCase):
    def test_pasts(self):
        for row in (RING, tuple(RING), [*RING, ("a", "b")], [*RING[:2], ("a", "b"), *RING[2:]],
                    [*RING[:2], ("a", "b"), ("a", "b"), *RING[2:], ("a", "b"), ("c", "d"), ("a", "c")],
                    [*RING, ("b", "d"), ("a", "c"), ("b", "d")]):
            self.assertIs(is_past(RING, 1, row), True, row)

    def test_what_is_no_past(self):
        for row in ([("a", "b"), *RING], [RING[0], ("a", "b"), *RING[1:]], [*RING, ("b", "a")], [*RING, ("a", "x")],
                    [*RING, ("a", "a")], [*RING, ["a", "b"]], [*RING, ("a", "b", "c")], [*RING, ("a",)], RING[1:],
                    RING[::-1], [*RING, RING[5]], [*RING, FAR], [*RING[:5], ("b", "c"), AD], [*RING, "ab"], [*RING, None],
                    {0: RING}, [], (), None, "", [RING], [*RING[:2], ("c", "d"), *RING[2:]], [list(link) for link in RING],
                    [*RING, ("x", "y")], [*RING, ("a", "B")], [*RING, ("a", 1)], [RING[0], *RING]):
            self.assertIs(is_past(RING, 1, row), False, row)

    def test_no_links_at_all(self):
        for nothing in ([], ()):
            for r in range(6):
                self.assertIs(is_past(nothing, r, nothing), True)
                self.assertIs(is_past(nothing, r, [("a", "b")]), False)
                self.assertTrue(same(past_net(nothing, r, nothing, struck=RING), []))

    def test_all_rows_with_one_or_two_pairs(self):
        for rows, r, struck in SETS[::5]:
            pasts = {tuple(row) for row in all_pasts(rows, r, 1)}
            pairs = [*pairs_of(rows), ("a", "zz")]
            for at, pair in product(range(len(rows) + 1), pairs):
                row = (*rows[:at], pair, *rows[at:])
                self.assertIs(is_past(rows, r, row), row in pasts)
                self.assertEqual(slow_row(rows, r, row), row in pasts)

    def test_pasts_and_their_nets_by_slow_reckoning(self):
        for rows, r, struck in SETS:
            for row in all_pasts(rows, r, 2 if len(rows) < 7 else 1):
                self.assertIs(is_past(tuple(rows), r, tuple(row)), True)
                told = past_net(rows, r, row, struck=struck)
                self.assertTrue(same(told, row_net(row, struck)))
                self.assertEqual(past_net(rows[::-1], r, tuple(row), struck=tuple(struck)), told)

    def test_a_past_without_others(self):
        for rows, r, struck in SETS:
            self.assertTrue(same(past_net(rows, r, rows, struck=struck), net(rows, struck=struck)))

    def test_nets_of_pasts(self):
        row = [*RING[:2], ("a", "b"), ("a", "b"), *RING[2:], ("a", "c")]
        self.assertEqual(past_net(RING, 1, row), [RING[0], RING[2], BC])
        self.assertEqual(past_net(RING, 1, row, struck=TWICE_AB), [("a", "b"), RING[2], BC])
        self.assertEqual(past_net(RING, 1, row, struck=RING), [("a", "b"), ("a", "c")])
        self.assertEqual(past_net(RING, 1, row, struck=[FAR, *TWICE_AB, FAR]), [("a", "b"), RING[2], BC])

    def test_one_small_change(self):
        for row in ([*RING[:2], ("a", "b"), *RING[2:], ("a", "c")], RING, [*TWICE_AB, ("a", "b")]):
            rows = [part for part in row if len(part) == 4]
            for thing in otherwise(row):
                right = slow_row(rows, 1, thing)
                self.assertIs(is_past(rows, 1, thing), right, thing)
                self.assertEqual(refusal(past_net, rows, 1, thing), None if right else ("NoKept", {"at": -1}))

    def test_of_anything(self):
        for thing in things():
            for row in (thing, [*RING, thing], [thing, *RING], [*RING[:5], thing, AD], [*RING, ("a", thing)],
                        [*RING, (thing, "b")], [*RING[:5], thing], [*RING, (thing, thing)], {0: thing}):
                right = slow_row(RING, 1, row)
                self.assertIs(unchanged(self, is_past, RING, 1, row), right, row)
                self.assertEqual(refusal(unchanged, self, past_net, RING, 1, row),
                                 None if right else ("NoKept", {"at": -1}))

    def test_truths_are_no_numbers(self):
        link = (0, 1, "a", "b")
        for other in ((False, 1, "a", "b"), (0, True, "a", "b")):
            self.assertIs(is_past([link], 0, [other]), False)
            self.assertIs(is_past([link], 0, [link, other]), False)


class OtherPast(unittest.TestCase):
    def test_other_pasts(self):
        self.assertIsNone(other_past(RING, 1))
        row = other_past(RING, 1, struck=TWICE_AB)
        self.assertIn(row, [[*RING[:gap], ("a", "b"), *RING[gap:]] for gap in range(2, 6)])
        self.assertEqual(other_past([AD], 0, struck=[AD]), [AD, ("a", "d")])

    def test_just_where_the_net_is_not_sure(self):
        for rows, r, struck in SETS:
            row = unchanged(self, other_past, rows, r, struck=struck)
            self.assertEqual(row is None, sure(rows, r, struck=struck)[0] == "sure")
            self.assertTrue(same(row, other_past(tuple(rows[::-1] * 2), r, struck=tuple(struck[::-1] * 2))))
            if row is not None:
                self.assertIs(type(row), list)
                self.assertTrue(slow_row(rows, r, row))
                self.assertEqual(len(row), len(rows) + 1)
                self.assertIs(is_past(rows, r, row), True)
                self.assertNotEqual(row_net(row, struck), net(rows, struck=struck))
                self.assertNotEqual(past_net(rows, r, row, struck=struck), net(rows, struck=struck))


class Refused(unittest.TestCase):
    def calls(self):
        """Each call with what else it takes, and what is refused of that, in order; whether it takes struck ones."""
        places = [(name, worth, ("NoPlace", {"place": worth})) for name in ("one", "other") for worth in ("x", None, [1])]
        places.append(("other", "a", ("NoPlace", {"place": "a"})))
        no_link = [("link", worth, ("NoLink", {"at": 0})) for worth in (AD, FAR, None, [BC], (True, 0, "b", "c"))]
        no_row = [("row", worth, ("NoKept", {"at": -1})) for worth in (None, [], [*RING, ("b", "a")])]
        return [(sure, {}, [], True), (shows_sure, {"thing": None}, [], True), (link_sure, {"link": BC}, no_link, True),
                (shows_link, {"link": BC, "thing": None}, no_link, True),
                (between, {"one": "a", "other": "b"}, places, True), (is_past, {"row": None}, [], False),
                (past_net, {"row": RING}, no_row, True), (other_past, {}, [], True)]

    def test_the_first_refusal_comes(self):
        for call, more, wrongs, strikes in self.calls():
            order = [("links", [BC, None], ("NoLink", {"at": 1})), ("links", None, ("NoLink", {"at": 0}))]
            order += [("r", worth, ("TooMany", {"most": 5})) for worth in (-1, 6, True, None)]
            if strikes:
                order += [("struck", [FAR, FAR, 5], ("NoLink", {"at": 2})), ("struck", 7, ("NoLink", {"at": 0}))]
            order += [("links", [FAR, *RING, (0, 9, "a", "b")], ("NoKept", {"at": 4})),
                      ("links", [(0, 3, "a", "b"), (0, 2, "a", "b"), *RING], ("NoKept", {"at": 2}))]
            good = {"links": RING, "r": 1, **more, **({"struck": []} if strikes else {})}
            refused_in_order(self, call, good, order + wrongs)

    def test_links_numbers_and_struck_ones_of_anything(self):
        for call, more, _, strikes in self.calls():
            for thing in [*things(), 6, -6]:
                self.assertEqual(refusal(call, [*RING, thing], 1, **more), ("NoLink", {"at": 6}))
                if type(thing) is not int or not 0 <= thing <= 5:
                    self.assertEqual(refusal(call, RING, thing, **more), ("TooMany", {"most": 5}))
                if strikes:
                    self.assertEqual(refusal(call, RING, 1, **more, struck=[AD, thing]), ("NoLink", {"at": 1}))
                if thing not in ([], ()):
                    self.assertEqual(refusal(call, thing, 1, **more), ("NoLink", {"at": 0}))
                    if strikes:
                        self.assertEqual(refusal(call, RING, 1, **more, struck=thing), ("NoLink", {"at": 0}))

    def test_what_is_not_kept(self):
        rows = [(cost, 0, "a", "b") for cost in range(8)]
        for call, more, _, _ in self.calls():
            for r in range(6):
                self.assertEqual(refusal(call, rows[::-1] * 2, r, **more), ("NoKept", {"at": r + 1}))
                self.assertEqual(refusal(call, [*rows[:r + 1], BC, rows[r + 1]], r, **more),
                                 ("NoKept", {"at": r + 1 + (r > 0)}))

    def test_links_of_anything_that_are_not_in_the_net(self):
        for thing in [*things(), TWICE_AB[1], AD, list(BC), (1, False, "b", "c"), FAR]:
            for call, more in ((link_sure, {}), (shows_link, {"thing": None})):
                self.assertEqual(refusal(call, RING, 1, thing, **more), ("NoLink", {"at": 0}))
        for call, more in ((link_sure, {}), (shows_link, {"thing": None})):
            self.assertEqual(refusal(call, RING, 1, BC, **more, struck=[BC]), ("NoLink", {"at": 0}))
            self.assertIsNone(refusal(call, RING, 1, AD, **more, struck=[BC]))
            self.assertEqual(refusal(call, [], 1, BC, **more), ("NoLink", {"at": 0}))

    def test_places_of_anything(self):
        for thing in things():
            self.assertEqual(refusal(between, RING, 1, thing, "x"), ("NoPlace", {"place": thing}))
            self.assertEqual(refusal(between, RING, 1, "a", thing), ("NoPlace", {"place": thing}))
        for place in "abcd":
            self.assertEqual(refusal(between, RING, 1, place, place), ("NoPlace", {"place": place}))
        self.assertEqual(refusal(between, [], 1, "a", "b"), ("NoPlace", {"place": "a"}))


class HandedIn(unittest.TestCase):
    def test_what_is_handed_in_stays(self):
        links, struck = [AD, *RING], [*TWICE_AB, FAR]
        row = [*RING[:2], ("a", "b"), *RING[2:]]
        for call, more in ((sure, ()), (other_past, ()), (link_sure, (AD,)), (between, ("a", "b")), (past_net, (row,)),
                           (shows_sure, (("sure", {("a", "b"): [1]}),)), (shows_link, (AD, ["in", [], [[]]]))):
            unchanged(self, call, links, 1, *more, struck=struck)
        unchanged(self, is_past, links, 1, [*row, ["a", "b"]])

    def test_what_is_told_is_new(self):
        first = sure(RING, 1)[1]
        first.clear()
        self.assertEqual(len(sure(RING, 1)[1]), 6)
        row = list(RING)
        for call, more in ((past_net, (row,)), (other_past, ())):
            told = call(RING, 1, *more, struck=TWICE_AB)
            whole = list(told)
            told.clear()
            self.assertEqual(call(RING, 1, *more, struck=TWICE_AB), whole)
        row = [AD]
        self.assertIsNot(past_net(row, 0, row), row)
        self.assertEqual(row, [AD])

    def test_arguments_by_their_names(self):
        self.assertEqual(sure(struck=[], r=0, links=[AD])[0], "sure")
        self.assertIs(shows_sure(struck=[], thing=("sure", {}), r=0, links=[]), True)
        self.assertEqual(link_sure(struck=[], link=AD, r=0, links=[AD])[0], "in")
        self.assertIs(shows_link(struck=[], thing=("in", ("a",), (("a",),)), link=AD, r=0, links=[AD]), True)
        self.assertEqual(between(struck=[], other="d", one="a", r=0, links=[AD]), (1, 1))
        self.assertIs(is_past(row=[AD], r=0, links=[AD]), True)
        self.assertEqual(past_net(struck=[AD], row=[AD], r=0, links=[AD]), [])
        self.assertIsNone(other_past(struck=[], r=0, links=[AD]))

    def test_struck_ones_by_name_alone(self):
        for call, more in ((sure, ()), (other_past, ()), (link_sure, (AD,)), (between, ("a", "d")), (past_net, ([AD],)),
                           (shows_sure, (None,)), (shows_link, (AD, None))):
            with self.assertRaises(TypeError):
                call([AD], 0, *more, [])
        with self.assertRaises(TypeError):
            is_past([AD], 0, [AD], struck=[])

    def test_the_same_is_told_whenever_the_same_is_asked(self):
        for order in combinations(list(permutations(RING))[::97], 2):
            for struck in ([], TWICE_AB, RING):
                self.assertTrue(same(*[sure(links, 1, struck=struck) for links in order]))
                self.assertTrue(same(*[other_past(links, 1, struck=[FAR, *struck[::-1]]) for links in order]))
