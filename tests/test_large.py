"""Stages 3 to 8 at the sizes that the document tells: 12 places and 200 links."""

import random
import time
import unittest
from itertools import combinations

from fewkept.desk import Desk
from fewkept.houses import House
from fewkept.judging import Noted, judged
from fewkept.keeping import keep_paper, kept, shows_kept, shows_splits, splits, strikes
from fewkept.links import places
from fewkept.nets import net
from fewkept.pasts import between, is_past, link_sure, other_past, past_net, shows_link, shows_sure, sure
from fewkept.texts import link_text, page_text, read_page
from fewkept.ways import apart, are_ways, crossing, is_side, wide
from tests.helper import refusal

NAMES = ["a", "bb", "c", "dddddd", "e", "f", "g", "h", "i", "j", "k", "zzzzzz"]
PAIRS = list(combinations(NAMES, 2))
MOST_SECONDS = 5


def large_sets():
    dice = random.Random(200)
    yield [(at, 0, *pair) for at, pair in enumerate(PAIRS * 3)]
    yield [(dice.randint(0, 50), dice.randint(0, 9), *dice.choice(PAIRS)) for _ in range(200)]
    yield [(at, 10 ** 6, "a", "zzzzzz") for at in range(200)]
    yield [(at, 0, *NAMES[at % 11:at % 11 + 2]) for at in range(200)]
    yield [(at, 0, *NAMES[at // 20:at // 20 + 2]) for at in range(200)]
    yield [(10 ** 6 - at, 0, "a", NAMES[1 + at % 11]) for at in range(200)]
    yield [(dice.randint(0, 3), at, *sorted(dice.sample(NAMES[:5] if at % 9 else NAMES, 2))) for at in range(200)]


class Timed(unittest.TestCase):
    def timed(self, call, *args, **more):
        """What a call tells, when it doesn't take long."""
        begin = time.perf_counter()
        told = call(*args, **more)
        self.assertLess(time.perf_counter() - begin, MOST_SECONDS)
        return told


class Large(Timed):
    def test_ways_and_sides(self):
        for links in large_sets():
            for one, other in list(combinations(places(links), 2))[::3]:
                most = self.timed(wide, links, other, one)
                for many in (1, 5, 9):
                    word, shown = self.timed(apart, links, one, other, many)
                    self.assertEqual(word, "ways" if many <= most else "side")
                    if word == "ways":
                        self.assertEqual(len(shown), many)
                        self.assertIs(self.timed(are_ways, links, one, other, shown), True)
                    else:
                        self.assertIs(self.timed(is_side, links, one, other, shown), True)
                        self.assertEqual(len(self.timed(crossing, links, shown)), most)

    def test_what_is_kept(self):
        for links in large_sets():
            for r in range(6):
                told, paper = self.timed(kept, links, r), self.timed(keep_paper, links, r)
                self.assertIs(self.timed(shows_kept, links, r, told, paper), True)
                self.assertIs(self.timed(shows_kept, links, r, told[1:], paper), False)
                tree = self.timed(splits, links, r)
                self.assertIs(self.timed(shows_splits, links, r, tree), True)
                self.assertLessEqual(len(told), (r + 1) * (len(places(links)) - 1))
                for link in told[::4]:
                    gone = self.timed(strikes, links, r, link)
                    self.assertLessEqual(len(gone), r)
                    self.assertIn(link, net(links, struck=gone))
                    self.assertTrue(all(row in told for row in gone))
                for link in [row for row in links if row not in told][::50]:
                    self.assertEqual(refusal(strikes, links, r, link), ("NoLink", {"at": 0}))

    def stands(self):
        """Kept ones, r, and struck ones: none, few, most, all, and others beside."""
        dice = random.Random(7)
        for links in large_sets():
            for r in (0, 1, 3, 5):
                rows = kept(links, r)
                for share in (0, 0.2, 0.7, 1):
                    struck = [row for row in rows if dice.random() < share]
                    yield rows, r, (struck + [row for row in links if row not in rows])[:200]
        for r in range(1, 6):
            yield self.ring(r), r, [row for row in self.ring(r) if row[0] == 0]

    def ring(self, r):
        """Six pairs of alike places in a row, and a link that closes the ring behind them."""
        early = [(0, at, *NAMES[pair:pair + 2]) for pair in range(0, 12, 2) for at in range(r + 1)]
        late = [(1, 0, *NAMES[pair:pair + 2]) for pair in range(1, 11, 2)]
        return [*sorted(early), *late, (2, 0, NAMES[0], NAMES[11])]

    def test_a_path_of_many_steps(self):
        for r in range(1, 6):
            rows = self.ring(r)
            self.assertEqual(kept(rows, r), rows)
            for many in range(7):
                struck = [row for row in rows if row[0] == 0 and row[2] in NAMES[:2 * many]]
                if many == 0:
                    self.assertEqual(refusal(link_sure, rows, r, rows[-1], struck=struck), ("NoLink", {"at": 0}))
                else:
                    word, _, path = self.timed(link_sure, rows, r, rows[-1], struck=struck)
                    self.assertEqual((word, sum(len(step) == 3 for step in path)), ("open", many))

    def test_what_is_sure(self):
        for rows, r, struck in self.stands():
            told = self.timed(sure, rows, r, struck=struck)
            self.assertIs(self.timed(shows_sure, rows, r, told, struck=struck), True)
            row = self.timed(other_past, rows, r, struck=struck)
            self.assertEqual(row is None, told[0] == "sure")
            if row is not None:
                self.assertIs(self.timed(is_past, rows, r, row), True)
                self.assertNotEqual(self.timed(past_net, rows, r, row, struck=struck), net(rows, struck=struck))
            if not {*struck} & {*rows}:
                self.assertEqual(told[0], "sure")

    def test_links_that_are_sure(self):
        words = []
        for rows, r, struck in self.stands():
            for link in net(rows, struck=struck):
                told = self.timed(link_sure, rows, r, link, struck=struck)
                self.assertIs(self.timed(shows_link, rows, r, link, told, struck=struck), True)
                words.append(told[0])
                if told[0] == "open":
                    gap = rows.index(link)
                    row = [*rows[:gap], *[tuple(sorted(step[:2])) for step in told[2] if len(step) == 3], *rows[gap:]]
                    self.assertIs(self.timed(is_past, rows, r, row), True)
                    self.assertNotIn(link, past_net(rows, r, row, struck=struck))
        self.assertTrue(words.count("in") > 100 and words.count("open") >= 5)

    def test_gaps_between(self):
        for rows, r, struck in self.stands():
            for one, other in list(combinations(places(rows), 2))[::7]:
                first, last = self.timed(between, rows, r, one, other, struck=struck)
                self.assertTrue(last is None or first <= last)
                if last is not None:
                    usable = [row for row in rows if row not in struck]
                    self.assertGreater(wide([row for row in rows[:last] if row in usable], one, other), 0)

    def test_long_rows(self):
        for links in large_sets():
            rows = kept(links, 5)
            alike = [pair for pair in combinations(places(rows), 2) if wide(rows, *pair) > 5]
            row = [*rows, *alike * 3]
            self.assertIs(self.timed(is_past, rows, 5, row), True)
            self.assertEqual(self.timed(past_net, rows, 5, row), net(rows))
            late = len(rows)
            while late and all(is_past(rows, 5, [*rows[:late - 1], pair, *rows[late - 1:]]) for pair in alike[:1]):
                late -= 1
            row = [part for at, link in enumerate(rows) for part in ([link] + alike[:1] * (at + 1 >= late))]
            self.assertIs(self.timed(is_past, rows, 5, row), True)


def orders(links):
    """These links in several orders: the worst are those in which each new one is lesser than all that are kept."""
    rows = sorted(links)
    middle = len(rows) // 2
    yield rows
    yield rows[::-1]
    yield random.Random(31).sample(rows, len(rows))
    yield [rows[at] for pair in zip(range(middle, len(rows)), range(middle - 1, -1, -1)) for at in pair]


class LargeHouses(Timed):
    def live(self, house, links, struck):
        """All that a house may hear, strike and tell."""
        for link in links:
            house.hear(link)
        for link in struck:
            house.strike(link)
        house.take(house.page())
        house.sure()
        for link in house.net():
            house.surely(link)
        for one, other in list(combinations(places(links), 2))[::9]:
            house.between(one, other)

    def test_houses_and_judges(self):
        for links in large_sets():
            for r in range(6):
                rows = kept(links, r)
                struck = random.Random(r).sample(links, 100) + [(at, 7, "q", "qq") for at in range(100)]
                houses = []
                for order in orders(links):
                    house = Noted(r)
                    self.timed(self.live, house, order, struck)
                    self.assertEqual((house.links(), house.struck()), (rows, sorted(set(struck))))
                    record = house.record()
                    self.assertIsNone(self.timed(judged, record))
                    wrong = (r, (*record[1][:-1], (*record[1][-1][:-1], ("in", (), ()))))
                    self.assertEqual(self.timed(judged, wrong), len(record[1]) - 1)
                    houses.append(house)
                self.assertTrue(all(house == houses[0] for house in houses))
                text = self.timed(page_text, houses[0].page())
                page = self.timed(read_page, text)
                self.assertEqual(page, houses[0].page())
                for less in range(r + 1):
                    twin, other = houses[0].twin(), House(less)
                    self.timed(other.take, page)
                    gone, stands = self.timed(twin.lessen, less)
                    self.assertTrue(twin == other and len(gone) + len(stands) == len(rows))
                    self.assertEqual(other.links(), kept(links, less))
                    self.assertIsNone(self.timed(judged, twin.record()))

    def test_pages_of_many_houses(self):
        for links in large_sets():
            whole = Noted(5)
            for at in range(7):
                part = Noted(5)
                self.timed(self.live, part, links[at::7], links[at::9])
                self.timed(whole.take, part.page())
            self.assertEqual(whole.links(), kept(links, 5))
            self.assertIsNone(self.timed(judged, whole.record()))

    def test_desks(self):
        for links in large_sets():
            for order in orders(links):
                desk = Desk(5)
                rows = [f"link {link_text(link)}" for link in order]
                rows += [f"strike {link_text(link)}" for link in order[::3]] + ["net", "sure", "keeps"]
                rows += [f"{word} {link_text(link)}" for link in order[::5] for word in ("surely", "why")]
                rows += [f"{word} {one} {other}" for word in ("between", "wide")
                         for one, other in list(combinations(places(links), 2))[::7]]
                answers = self.timed(lambda: [desk.answer(row) for row in [*rows, "lessen 0", "keeps"]])
                self.assertNotIn("what", answers)
                self.assertEqual(answers[-1], str(len(places(links)) - 1))
