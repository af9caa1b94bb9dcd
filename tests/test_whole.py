"""What is promised over the whole program: points 0.1, 0.2 (a) to (f) and 0.3 of the document."""

import random
import unittest
from itertools import combinations, permutations

from fewkept.houses import House
from fewkept.judging import Noted, judged
from fewkept.keeping import keep_paper, shows_kept, shows_splits, splits, strikes
from fewkept.links import places
from fewkept.nets import net, net_paper, shows_net
from fewkept.pasts import is_past, other_past, past_net, shows_link, shows_sure
from fewkept.texts import link_text, page_text, read_link, read_page
from fewkept.ways import apart, are_ways, crossing, is_side, wide
from tests.deeds import all_deeds
from tests.helper import random_set, same, slow_net
from tests.judges import right_ways
from tests.slow import (all_pasts, fewest_alike, least_cross, pairs_of, row_net, slow_kept, slow_strikes, slow_wide,
                        spots)

CASES = [(house, own) for house, _, own, *_ in list(all_deeds())]


def last_stands():
    """Some houses, each as it stood at last, with all that ever came."""
    return list({id(house): (house, own) for house, own in CASES}.values())


class Nets(unittest.TestCase):
    def test_a_net_with_a_ring_for_each_link_that_it_lacks(self):
        for house, own in last_stands():
            links, struck = house.links(), house.struck()
            told, paper = net(links, struck=struck), net_paper(links, struck=struck)
            self.assertTrue(same(house.net(), slow_net(links, struck)))
            self.assertTrue(shows_net(links, told, paper, struck=struck))
            self.assertEqual(sorted([*told, *paper]), [row for row in links if row not in struck])
            for link, way in paper.items():
                self.assertTrue(right_ways([row for row in told if row < link], *link[2:], (way,), 1))

    def test_so_many_ways_or_a_side_that_fewer_cross(self):
        for house, own in last_stands():
            links = house.links()
            for one, other in pairs_of(links)[:4]:
                most = slow_wide(links, one, other)
                self.assertEqual((wide(links, one, other), least_cross(links, one, other)), (most, most))
                for many in range(1, 10):
                    word, shown = apart(links, one, other, many)
                    self.assertEqual(word, "ways" if many <= most else "side")
                    self.assertTrue((are_ways if word == "ways" else is_side)(links, one, other, shown))
                    self.assertTrue(word == "ways" or len(crossing(links, shown)) < many)


class Kept(unittest.TestCase):
    def test_just_those_that_some_strikes_could_bring_into_the_net(self):
        for house, own in last_stands():
            r, links, came = house.many(), house.links(), sorted(own.came)
            self.assertTrue(shows_kept(came, r, links, keep_paper(came, r)))
            for link in came:
                least = slow_strikes(came, link, r) if len(came) < 10 else None
                if link in links:
                    gone = strikes(links, r, link)
                    self.assertTrue(len(gone) <= r and {*gone} <= {*links} and link in slow_net(came, gone))
                    self.assertTrue(len(came) >= 10 or least == len(gone))
                else:
                    self.assertIsNone(least)
                    word, ways = house.twin().hear(link)
                    self.assertTrue(right_ways([row for row in links if row < link], *link[2:], ways, r + 1))

    def test_how_few_they_are_as_a_tree_of_splits_shows(self):
        for house, own in last_stands():
            r, links = house.many(), house.links()
            self.assertLessEqual(len(house), (r + 1) * max(0, len(spots(own.came)) - 1))
            self.assertEqual(places(links), spots(own.came))
            self.assertTrue(shows_splits(links, r, splits(links, r)))

    def test_on_the_links_that_were_told_alone(self):
        for seed in range(60):
            dice = random.Random(seed)
            r = dice.randint(0, 3)
            links, struck = random_set(dice, "abcde"[:2 + seed % 4], 9)
            houses = [House(r) for _ in range(4)]
            for link in links:
                dice.choice(houses).hear(link)
            for link in struck:
                dice.choice(houses).strike(link)
            for _ in range(2):
                for house, other in dice.sample(list(permutations(houses, 2)), 12):
                    house.take(other.page())
            middle = House(r)
            for house in houses:
                middle.take(read_page(page_text(house.page())))
            for house in houses:
                house.take(middle.page())
                self.assertTrue(house == middle)
                self.assertEqual((house.links(), house.struck()), (slow_kept(links, r), sorted(set(struck))))


class Sure(unittest.TestCase):
    def test_behind_at_most_so_many_strikes_it_is_the_net_of_all_that_came(self):
        dice = random.Random(30)
        for house, own in last_stands():
            came = sorted(own.came)
            for many in range(min(own.r, len(came)) + 1):
                other = House(own.r)
                other.take((own.r, tuple(house.links()), tuple(sorted(dice.sample(came, many)))))
                self.assertEqual(other.sure()[0], "sure")
                self.assertEqual(other.net(), slow_net(came, other.struck()))
                self.assertEqual({other.surely(link)[0] for link in other.net()}, {"in"} if other.net() else set())

    def test_behind_any_strikes_it_is_sure_just_where_each_past_makes_that_net(self):
        words = []
        for house, own in last_stands():
            r, links, struck = house.page()
            if len(links) > 7:
                continue
            pasts = all_pasts(list(links), r, 1 if len(links) > 4 else 2)
            nets = [row_net(row, struck) for row in pasts]
            word = house.sure()[0]
            self.assertTrue(shows_sure(links, r, house.sure(), struck=struck))
            self.assertEqual(word == "sure", all(other == nets[0] for other in nets))
            words.append(word)
            row = other_past(links, r, struck=struck)
            self.assertEqual(row is None, word == "sure")
            if row is not None:
                self.assertTrue(is_past(links, r, row))
                self.assertNotEqual(past_net(links, r, row, struck=struck), house.net())
            else:
                self.assertEqual(house.net(), slow_net(own.came, struck))
            for link in house.net():
                fewest = fewest_alike(list(links), r, link, struck)
                told = house.surely(link)
                self.assertTrue(shows_link(links, r, link, told, struck=struck))
                self.assertEqual(told[0], "in" if fewest is None else "open")
                if fewest is not None:
                    self.assertEqual(sum(len(step) == 3 for step in told[2]), fewest)
        self.assertTrue(words.count("sure") > 10 and words.count("unsure") > 10)


class Told(unittest.TestCase):
    def test_from_its_record_alone_a_judge_tells_the_first_wrong_row(self):
        for house in {id(house): house for house, *_ in list(all_deeds(Noted))}.values():
            r, rows = house.record()
            self.assertIsNone(judged((r, rows)))
            for at in range(0, len(rows), 5):
                for wrong in (None, rows[at][:-1], (*rows[at][:-1], None)):
                    self.assertEqual(judged((r, (*rows[:at], wrong, *rows[at + 1:]))), at)

    def test_texts_are_read_to_what_was_written(self):
        for house, _ in CASES[::5]:
            self.assertTrue(same(read_page(page_text(house.page())), house.page()))
            for link in house.links():
                self.assertTrue(same(read_link(link_text(link)), link))


class Everywhere(unittest.TestCase):
    def test_lists_and_tuples_of_links_are_alike(self):
        for house, own in last_stands()[::9]:
            r, links, struck = house.page()
            for call, more in ((net, {"struck": struck}), (net_paper, {"struck": struck}), (keep_paper, {"r": r})):
                lists = {name: list(thing) if type(thing) is tuple else thing for name, thing in more.items()}
                self.assertTrue(same(call(links, **more), call(list(links), **lists)))

    def test_the_same_is_told_by_whatever_road(self):
        some = [(1, 0, "a", "b"), (2, 0, "b", "c"), (3, 0, "a", "c"), (4, 0, "a", "b"), (5, 0, "b", "c")]
        for links in combinations(some, 4):
            told = []
            for order in list(permutations(links))[::5]:
                house = Noted(1)
                for link in order:
                    house.hear(link)
                begin = len(house.record()[1])
                house.net(), house.sure(), house.lessen(1), house.hear((0, 0, "a", "c"))
                told.append(house.record()[1][begin:])
            self.assertTrue(all(same(rows, told[0]) for rows in told))
