"""Stage 2: the net, its paper, and ways."""

import unittest
from itertools import chain, combinations, permutations, product

from fewkept.links import rising
from fewkept.nets import joined, net, net_paper, shows_net
from tests.helper import (GOOD, all_ways, otherwise, refusal, same, slow_joined, slow_net, slow_paper, small_sets,
                          things, unchanged)

AB, AC, BC = (1, 0, "a", "b"), (2, 0, "a", "c"), (3, 0, "b", "c")
AB_LATE, BD, CD = (4, 0, "a", "b"), (5, 0, "b", "d"), (5, 1, "c", "d")
SOME = [CD, AB_LATE, BC, AB, BD, AC]


def subsets(rows):
    return chain.from_iterable(combinations(rows, many) for many in range(len(rows) + 1))


class Nets(unittest.TestCase):
    def test_a_net(self):
        self.assertEqual(net(SOME), [AB, AC, BD])
        self.assertEqual(net_paper(SOME), {BC: (AB, AC), AB_LATE: (AB,), CD: (AC, AB, BD)})

    def test_struck_links(self):
        self.assertEqual(net(SOME, struck=[AB]), [AC, BC, BD])
        self.assertEqual(net_paper(SOME, struck=[AB]), {AB_LATE: (AC, BC), CD: (BC, BD)})
        self.assertEqual(net(SOME, struck=[AB, AC, BC]), [AB_LATE, BD, CD])
        self.assertEqual(net_paper(SOME, struck=[AB, AC, BC]), {})
        self.assertEqual(net(SOME, struck=SOME), [])
        self.assertEqual(net_paper(SOME, struck=SOME), {})

    def test_struck_links_that_nobody_told(self):
        others = [(1, 1, "a", "b"), (0, 0, "x", "y"), (1, 0, "a", "bb"), AB, AB]
        self.assertEqual(net(SOME, struck=others), net(SOME, struck=[AB]))
        self.assertEqual(net_paper(SOME, struck=others), net_paper(SOME, struck=[AB]))
        self.assertEqual(net([], struck=others), [])
        self.assertEqual(net_paper([], struck=others), {})

    def test_the_same_two_places_cost_or_mark(self):
        rows = [(1, 5, "a", "b"), (1, 4, "a", "b"), (0, 9, "b", "c"), (1, 4, "b", "c"), (1, 4, "a", "c")]
        self.assertEqual(net(rows), [(0, 9, "b", "c"), (1, 4, "a", "b")])
        self.assertEqual(net_paper(rows), {
            (1, 4, "a", "c"): ((1, 4, "a", "b"), (0, 9, "b", "c")),
            (1, 4, "b", "c"): ((0, 9, "b", "c"),),
            (1, 5, "a", "b"): ((1, 4, "a", "b"),)})

    def test_numbers_of_more_figures_come_later(self):
        rows = [(10, 0, "a", "b"), (9, 0, "a", "b"), (10 ** 6, 0, "b", "c"), (0, 10 ** 6, "b", "c")]
        self.assertEqual(net(rows), [(0, 10 ** 6, "b", "c"), (9, 0, "a", "b")])

    def test_no_links_at_all(self):
        for nothing in ([], ()):
            self.assertTrue(same(net(nothing), []))
            self.assertTrue(same(net_paper(nothing), {}))
            self.assertIs(shows_net(nothing, [], {}), True)
            self.assertIs(shows_net(nothing, (), {}), True)

    def test_nets_by_slow_reckoning(self):
        for links, struck in small_sets():
            for gone in ([], struck):
                self.assertTrue(same(net(links, struck=gone), slow_net(links, gone)))
                self.assertTrue(same(list(net_paper(links, struck=gone).items()), slow_paper(links, gone)))

    def test_a_net_is_the_same_told_in_any_order_and_twice(self):
        for order in permutations(SOME):
            self.assertEqual(net(order), [AB, AC, BD])
            self.assertEqual(list(net_paper(order + order)), [BC, AB_LATE, CD])

    def test_many_links_and_places(self):
        names = "abcdefghijkl"
        links = [(at * 7919 % 1000, at, *pair) for at, pair in enumerate(list(combinations(names, 2)) * 3)]
        told, paper = net(links), net_paper(links)
        self.assertEqual((len(links), len(told), len(paper)), (198, 11, 187))
        self.assertIs(shows_net(links, told, paper), True)
        for link, way in paper.items():
            self.assertEqual([way], list(all_ways([row for row in told if row < link], *link[2:])))


class Shown(unittest.TestCase):
    def test_true_of_what_net_and_its_paper_tell(self):
        for links, struck in small_sets():
            for gone in ([], struck):
                told, paper = net(links, struck=gone), net_paper(links, struck=gone)
                back = dict(list(paper.items())[::-1])
                for rows, ways in ((told, paper), (tuple(told), paper), (told, back), (tuple(told), back)):
                    self.assertIs(unchanged(self, shows_net, links, rows, ways, struck=gone), True)

    def test_false_where_one_thing_is_otherwise(self):
        for links, struck in list(small_sets())[::7] + [(SOME, []), (SOME, [AB, GOOD])]:
            told, paper = net(links, struck=struck), net_paper(links, struck=struck)
            for other in otherwise(told):
                self.assertIs(shows_net(links, other, paper, struck=struck), False, other)
            for other in otherwise(paper):
                self.assertIs(shows_net(links, told, other, struck=struck), False, other)

    def test_all_that_could_be_told_of_a_few_links(self):
        for links in ([AB, AC, BC], [AB, AB_LATE, BC], [AB, AC, BC, AB_LATE], [AB, CD], [AB, AC, BC, BD, CD]):
            right = net(links)
            for told in subsets(rising(links)):
                others = [link for link in rising(links) if link not in told]
                ways = [[(), *all_ways(links, *link[2:])] for link in others]
                for chosen in product(*ways):
                    paper = dict(zip(others, chosen))
                    fits = all(way and max(way) < link and set(way) <= set(told) for link, way in paper.items())
                    shown = fits and list(told) == right
                    self.assertIs(shows_net(links, told, paper), shown)
                    self.assertEqual(fits and self.is_bare(told), shown)

    def is_bare(self, told):
        return all(len(list(all_ways(told, *pair))) < 2 for pair in combinations("abcd", 2))

    def test_told_of_anything(self):
        for thing in things():
            self.assertIs(unchanged(self, shows_net, [], thing, {}), thing in ([], ()), thing)
            self.assertIs(unchanged(self, shows_net, [GOOD], thing, {}), False)
            self.assertIs(shows_net([GOOD], [thing], {}), False)
            self.assertIs(shows_net([GOOD], [GOOD, thing], {}), False)
        self.assertIs(shows_net([GOOD], [GOOD], {}), True)
        self.assertIs(shows_net([GOOD], GOOD, {}), False)
        self.assertIs(shows_net([GOOD], {GOOD: 1}, {}), False)

    def test_paper_of_anything(self):
        for thing in things():
            self.assertIs(unchanged(self, shows_net, [GOOD], [GOOD], thing), same(thing, {}), thing)
            self.assertIs(unchanged(self, shows_net, SOME, net(SOME), thing), False)
            paper = net_paper(SOME)
            self.assertIs(shows_net(SOME, net(SOME), {**paper, BC: thing}), False)
            self.assertIs(shows_net(SOME, net(SOME), {**paper, BC: (thing,)}), False)
            self.assertIs(shows_net(SOME, net(SOME), {**paper, BC: (AB, thing)}), False)
            self.assertIs(shows_net(SOME, net(SOME), {**paper, BC: (thing, AC)}), False)
            if repr(thing).count("[") + repr(thing).count("{") == 0:
                self.assertIs(shows_net(SOME, net(SOME), {**paper, thing: (AB,)}), False)

    def test_truths_are_no_numbers(self):
        link, late = (0, 1, "a", "b"), (1, 1, "a", "b")
        self.assertIs(shows_net([link, late], [link], {late: (link,)}), True)
        self.assertIs(shows_net([link, late], [(False, 1, "a", "b")], {late: (link,)}), False)
        self.assertIs(shows_net([link, late], [(0, True, "a", "b")], {late: (link,)}), False)
        self.assertIs(shows_net([link, late], [link], {late: ((False, 1, "a", "b"),)}), False)
        self.assertIs(shows_net([link, late], [link], {(True, 1, "a", "b"): (link,)}), False)
        self.assertIs(shows_net([link, late], [link], {(1, True, "a", "b"): (link,)}), False)

    def test_a_way_is_a_tuple_from_one_to_other(self):
        told, paper = net(SOME), net_paper(SOME)
        for way in ([AB, AC], (AC, AB), (AB,), (AC,), (), (AB, AC, AC, AC), (AB, AB, AB, AC), (AB, BD, BD, AC),
                    (AB_LATE, AC), (BC,), (BC, AC, AC), {AB: 1, AC: 2}, [], None, "ways", (AB, list(AC)),
                    (list(AB), list(AC)), ((AB, AC),), (AB, AC, BD)):
            self.assertIs(shows_net(SOME, told, {**paper, BC: way}), False, way)

    def test_a_way_of_greater_links_shows_nothing(self):
        self.assertIs(shows_net([AB, AC, BC], [AB, BC], {AC: (AB, BC)}), False)
        self.assertIs(shows_net([AB, AB_LATE], [AB_LATE], {AB: (AB_LATE,)}), False)
        self.assertIs(shows_net([AB, AB_LATE], [AB], {AB_LATE: (AB_LATE,)}), False)

    def test_rings_and_lacking_links(self):
        self.assertIs(shows_net([AB, AC, BC], [AB, AC, BC], {}), False)
        self.assertIs(shows_net([AB, AB_LATE], [AB, AB_LATE], {}), False)
        self.assertIs(shows_net([AB, AC], [AB], {}), False)
        self.assertIs(shows_net([AB, AC], [AB], {AC: ()}), False)
        self.assertIs(shows_net([AB, AC], [AC, AB], {}), False)
        self.assertIs(shows_net([AB, AC], [AB, AB, AC], {}), False)

    def test_struck_ones_are_neither_told_nor_in_the_paper(self):
        told, paper = [AC, BC, BD], {AB_LATE: (AC, BC), CD: (BC, BD)}
        self.assertIs(shows_net(SOME, told, paper, struck=(AB, GOOD)), True)
        self.assertIs(shows_net(SOME, told, paper), False)
        self.assertIs(shows_net(SOME, [AB, *told], paper, struck=(AB, GOOD)), False)
        self.assertIs(shows_net(SOME, told, {**paper, AB: (AC, BC)}, struck=(AB, GOOD)), False)
        self.assertIs(shows_net(SOME, net(SOME), net_paper(SOME), struck=(AB, GOOD)), False)


class Joined(unittest.TestCase):
    def test_the_fewest_links(self):
        self.assertEqual(joined(SOME, "a", "b"), (AB,))
        self.assertEqual(joined(SOME, "b", "a"), (AB,))
        self.assertEqual(joined(SOME, "a", "d"), (AB, BD))
        self.assertEqual(joined(SOME, "d", "a"), (BD, AB))
        self.assertEqual(joined([(9, 9, "a", "c"), AB, BC], "a", "c"), ((9, 9, "a", "c"),))

    def test_the_least_of_the_fewest(self):
        rows = [(5, 0, "a", "b"), (1, 0, "b", "d"), (4, 0, "a", "c"), (9, 0, "c", "d"), (9, 1, "c", "d")]
        self.assertEqual(joined(rows, "a", "d"), ((4, 0, "a", "c"), (9, 0, "c", "d")))
        self.assertEqual(joined(rows, "d", "a"), ((1, 0, "b", "d"), (5, 0, "a", "b")))

    def test_none_where_no_way_leads(self):
        self.assertIsNone(joined([AB, CD], "a", "c"))
        self.assertIsNone(joined([AB, CD], "d", "b"))

    def test_by_slow_reckoning(self):
        for links, _ in small_sets():
            for one, other in permutations(sorted({name for link in links for name in link[2:]}), 2):
                told = joined(links, one, other)
                self.assertTrue(same(told, slow_joined(links, one, other)))
                self.assertEqual(told, joined(tuple(links[::-1] * 2), one, other))

    def test_many_links_and_places(self):
        names = [letter * 6 for letter in "abcdefghijkl"]
        links = [(at, at, *pair) for at, pair in enumerate(zip(names, names[1:]))]
        self.assertEqual(joined(links, names[0], names[-1]), tuple(links))
        self.assertEqual(joined(links, names[-1], names[0]), tuple(links[::-1]))

    def test_places_that_are_none_of_these(self):
        for thing in [*things(), "x", "ab", "zzzzzz", GOOD, ["a", "b"]]:
            self.assertEqual(refusal(joined, SOME, thing, "a"), ("NoPlace", {"place": thing}))
            self.assertEqual(refusal(joined, SOME, "a", thing), ("NoPlace", {"place": thing}))
            self.assertEqual(refusal(joined, SOME, thing, "y"), ("NoPlace", {"place": thing}))
            self.assertEqual(refusal(joined, SOME, thing, thing), ("NoPlace", {"place": thing}))
            self.assertEqual(refusal(joined, [], thing, "a"), ("NoPlace", {"place": thing}))
        self.assertEqual(refusal(joined, SOME, "y", "x"), ("NoPlace", {"place": "y"}))

    def test_both_places_the_same(self):
        for place in "abcd":
            self.assertEqual(refusal(joined, SOME, place, place), ("NoPlace", {"place": place}))


class Refused(unittest.TestCase):
    def calls(self):
        """Each call that takes links and struck ones, as one of these two alone."""
        return (lambda links, struck: net(links, struck=struck),
                lambda links, struck: net_paper(links, struck=struck),
                lambda links, struck: shows_net(links, [GOOD], {}, struck=struck),
                lambda links, struck: shows_net(links, None, None, struck=struck))

    def test_what_is_no_link_among_links_and_struck_ones(self):
        for call in self.calls():
            for bad in things():
                for at in range(3):
                    rows = [GOOD] * at + [bad, GOOD, None]
                    for wrong in (rows, tuple(rows)):
                        self.assertEqual(refusal(call, wrong, []), ("NoLink", {"at": at}))
                        self.assertEqual(refusal(call, [GOOD], wrong), ("NoLink", {"at": at}))
                        self.assertEqual(refusal(joined, wrong, "a", "b"), ("NoLink", {"at": at}))

    def test_what_is_no_list(self):
        for call in self.calls():
            for thing in things():
                if thing not in ([], ()):
                    self.assertEqual(refusal(call, thing, []), ("NoLink", {"at": 0}))
                    self.assertEqual(refusal(call, [GOOD], thing), ("NoLink", {"at": 0}))
                    self.assertEqual(refusal(joined, thing, "a", "b"), ("NoLink", {"at": 0}))

    def test_several_wrong_at_once(self):
        for call in self.calls():
            self.assertEqual(refusal(call, [GOOD, GOOD, 1], [None]), ("NoLink", {"at": 2}))
            self.assertEqual(refusal(call, [None], [GOOD, 1]), ("NoLink", {"at": 0}))
            self.assertEqual(refusal(call, [GOOD, None], 7), ("NoLink", {"at": 1}))
            self.assertEqual(refusal(call, [GOOD, None, 1, None], []), ("NoLink", {"at": 1}))
        self.assertEqual(refusal(joined, [GOOD, 1], None, None), ("NoLink", {"at": 1}))
        self.assertEqual(refusal(joined, [GOOD], None, 5), ("NoPlace", {"place": None}))
        self.assertEqual(refusal(joined, [GOOD], "a", ["a"]), ("NoPlace", {"place": ["a"]}))


class HandedIn(unittest.TestCase):
    def test_what_is_handed_in_stays_and_what_is_told_is_new(self):
        links, struck = list(SOME), [AC, GOOD]
        for call in (net, net_paper):
            first = unchanged(self, call, links, struck=struck)
            kept = type(first)(first)
            self.assertIsNot(call(links, struck=struck), first)
            first.clear()
            self.assertEqual(call(links, struck=struck), kept)
        told = net(links)
        links.clear()
        self.assertEqual(told, [AB, AC, BD])
        unchanged(self, joined, SOME, "a", "d")
        with self.assertRaises(ValueError):
            unchanged(self, joined, SOME, ["a", [1]], {})

    def test_a_tuple_is_as_good(self):
        for links, struck in small_sets():
            for call in (net, net_paper):
                self.assertTrue(same(call(tuple(links), struck=tuple(struck)), call(links, struck=struck)))

    def test_arguments_by_place_or_name(self):
        self.assertEqual(net(struck=[AB], links=SOME), net(SOME, struck=[AB]))
        self.assertEqual(net_paper(struck=[AB], links=SOME), net_paper(SOME, struck=[AB]))
        self.assertEqual(joined(other="d", one="a", links=SOME), (AB, BD))
        self.assertIs(shows_net(struck=[AB], paper={}, told=[], links=[AB]), True)
        self.assertIs(shows_net([AB], paper={}, told=[AB]), True)

    def test_struck_ones_by_name_alone(self):
        for call, args in ((net, (SOME, [])), (net_paper, (SOME, [])), (shows_net, (SOME, [], {}, []))):
            with self.assertRaises(TypeError):
                call(*args)
