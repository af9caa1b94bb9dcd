"""Stage 1: places, links, and what rises."""

import unittest
from itertools import permutations

from fewkept.links import is_link, is_place, places, rising
from tests.helper import GOOD, nested, refusal, same, small_sets, things, unchanged


class Places(unittest.TestCase):
    def test_texts_of_one_to_six_small_letters(self):
        for thing in ("a", "z", "b", "aa", "az", "abc", "zzzzzz", "abcdef", "home"):
            self.assertIs(is_place(thing), True)

    def test_what_is_no_place(self):
        for thing in ("", "aaaaaaa", "abcdefg", "a" * 40, "A", "aB", "a b", " a", "a ", "a-b", "a1", "0", "a\n", "\n",
                      "`", "{", "a`", "a{", "~", "@", "Z", "a,b", "a.b", "_"):
            self.assertIs(is_place(thing), False)

    def test_things_of_all_kinds(self):
        for thing in things():
            self.assertIs(is_place(thing), thing == "abcd", thing)


class Links(unittest.TestCase):
    def test_links(self):
        for thing in (GOOD, (0, 0, "a", "b"), (10 ** 6, 10 ** 6, "a", "aa"), (1, 0, "a", "zzzzzz"), (0, 5, "abc", "abd"),
                      (10 ** 6, 0, "aaaaaa", "aaaaab"), (0, 10 ** 6, "b", "ba")):
            self.assertIs(is_link(thing), True)

    def test_numbers_beyond(self):
        for worth in (-1, 10 ** 6 + 1, 10 ** 39, -(10 ** 39), True, False, None, "3", "", (3,), [3], {3: 3}):
            self.assertIs(is_link((worth, 7, "a", "b")), False)
            self.assertIs(is_link((3, worth, "a", "b")), False)

    def test_places_beyond(self):
        for worth in ("", "aaaaaaa", "A", "a1", 1, True, None, ("a",), ["a"], {"a": "b"}):
            self.assertIs(is_link((3, 7, worth, "b")), False)
            self.assertIs(is_link((3, 7, "a", worth)), False)

    def test_one_is_ahead_of_other(self):
        for one, other in (("b", "a"), ("a", "a"), ("aa", "a"), ("b", "aa"), ("zzzzzz", "zzzzzz")):
            self.assertIs(is_link((3, 7, one, other)), False)

    def test_a_link_is_a_tuple_of_four(self):
        for thing in ((), (3,), (3, 7), (3, 7, "a"), (3, 7, "a", "b", "c"), list(GOOD), (GOOD,), "3 7 a b",
                      {0: 3, 1: 7, 2: "a", 3: "b"}):
            self.assertIs(is_link(thing), False)

    def test_things_of_all_kinds(self):
        for thing in things():
            self.assertIs(is_link(thing), False, thing)
            number = type(thing) is int and 0 <= thing <= 10 ** 6
            self.assertIs(is_link((thing, 7, "a", "b")), number)
            self.assertIs(is_link((3, thing, "a", "b")), number)
            self.assertIs(is_link((3, 7, "a", thing)), thing == "abcd")

    def test_fourteen_within_one_another(self):
        for wrap in (lambda x: [x], lambda x: (x,), lambda x: {"a": x}, lambda x: (3, 7, "a", x)):
            for depth in range(15):
                self.assertIs(is_link(nested(depth, wrap)), False)
                self.assertIs(is_place(nested(depth, wrap)), False)


class Rising(unittest.TestCase):
    def test_links_rise_as_tuples_do_each_once(self):
        rows = [(1, 0, "a", "b"), (1, 0, "a", "c"), (1, 0, "b", "c"), (1, 2, "a", "b"), (2, 0, "a", "b"),
                (10, 0, "a", "b")]
        self.assertEqual(rising(rows[::-1]), rows)
        self.assertEqual(rising(rows + rows), rows)
        self.assertEqual(rising([rows[0]] * 5), [rows[0]])
        for order in permutations(rows[:4]):
            self.assertEqual(rising(order), rows[:4])

    def test_the_same_two_places_cost_or_mark(self):
        rows = [(1, 1, "a", "b"), (1, 2, "a", "b"), (2, 1, "a", "b"), (2, 1, "a", "c"), (2, 1, "b", "c")]
        self.assertEqual(rising(rows), rows)

    def test_no_links_at_all(self):
        for nothing in ([], ()):
            self.assertTrue(same(rising(nothing), []))
            self.assertTrue(same(places(nothing), []))

    def test_a_tuple_is_as_good_and_what_is_told_is_a_list(self):
        for links, _ in small_sets():
            self.assertTrue(same(rising(tuple(links)), rising(links)))
            self.assertTrue(same(places(tuple(links)), places(links)))
            self.assertTrue(same(rising(links), sorted(set(links))))

    def test_places_rise_each_once(self):
        self.assertEqual(places([(9, 0, "b", "c"), (1, 0, "a", "c"), (1, 1, "a", "c")]), ["a", "b", "c"])
        self.assertEqual(places([(1, 0, "b", "ba"), (2, 0, "ab", "b")]), ["ab", "b", "ba"])
        for links, _ in small_sets():
            told = places(links)
            self.assertEqual(told, sorted(set(told)))
            self.assertEqual(set(told), {link[2] for link in links} | {link[3] for link in links})

    def test_the_first_that_is_none(self):
        for call in (rising, places):
            for bad in things():
                for at in range(4):
                    rows = [GOOD] * at + [bad] + [GOOD, None, GOOD]
                    self.assertEqual(refusal(call, rows), ("NoLink", {"at": at}))
                    self.assertEqual(refusal(call, tuple(rows)), ("NoLink", {"at": at}))
            self.assertEqual(refusal(call, [GOOD, list(GOOD), None]), ("NoLink", {"at": 1}))

    def test_what_is_no_list(self):
        for call in (rising, places):
            for thing in things():
                if thing not in ([], ()):
                    self.assertEqual(refusal(call, thing), ("NoLink", {"at": 0}), thing)
            self.assertEqual(refusal(call, GOOD), ("NoLink", {"at": 0}))
            self.assertEqual(refusal(call, {GOOD: GOOD}), ("NoLink", {"at": 0}))

    def test_new_lists_each_time_and_nothing_changed(self):
        links = [(2, 0, "a", "b"), (1, 0, "a", "c"), (2, 0, "a", "b")]
        for call in (rising, places):
            first = unchanged(self, call, links)
            kept = list(first)
            first.clear()
            links.append(None)
            links.pop()
            self.assertEqual(call(links), kept)
            rows = call(call(links)) if call is rising else kept
            self.assertEqual(rows, kept)
        row = rising(links)
        self.assertIsNot(rising(row), row)
        with self.assertRaises(ValueError):
            unchanged(self, rising, [GOOD, [1, {2: 3}]])

    def test_arguments_by_their_names(self):
        self.assertEqual(rising(links=[GOOD]), [GOOD])
        self.assertEqual(places(links=[GOOD]), ["a", "b"])
        self.assertTrue(is_link(thing=GOOD))
        self.assertTrue(is_place(thing="a"))
