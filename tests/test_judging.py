"""Stage 7: houses that note what they do, and the judge of their records."""

import unittest
from unittest import mock

from fewkept.houses import House
from fewkept.judging import Noted, judged
from fewkept.nets import net_paper
from tests.deeds import all_deeds
from tests.helper import otherwise, refusal, same, things, unchanged
from tests.records import other_rows, right_judge, right_row, ring_house, some_houses
from tests.slow import strict

AB, BC, AC, AB_LATE, CD = (1, 0, "a", "b"), (2, 0, "b", "c"), (3, 0, "a", "c"), (4, 0, "a", "b"), (5, 0, "c", "d")
CD_LATE, FAR = (6, 0, "c", "d"), (9, 9, "x", "y")
RECORDS = [house.record() for house in some_houses()]
SMALL = [record for record in RECORDS if len(record[1]) < 14]
WORDS = ["heard", "struck", "took", "lessened", "net", "sure", "surely"]


def noted_house():
    """A house with a row of each kind in its record."""
    house = Noted(1)
    for link in (AB, AC, BC, AB_LATE, AB, CD, CD_LATE):
        house.hear(link)
    house.strike(FAR)
    house.strike(FAR)
    house.take((2, (AB, BC), (AC,)))
    house.net()
    house.sure()
    house.surely(BC)
    house.lessen(0)
    house.strike(AB)
    house.sure()
    return house


def with_row(record, at, row):
    r, rows = record
    return r, (*rows[:at], row, *rows[at + 1:])


class Notes(unittest.TestCase):
    def test_rows_of_each_kind(self):
        house = Noted(1)
        told = [house.hear(AB), house.strike(FAR), house.strike(FAR), house.hear(AB), house.take((2, (AB, BC), (FAR,)))]
        told.append(house.lessen(0))
        rows = [("heard", AB, told[0]), ("struck", FAR, "new"), ("struck", FAR, "known"), ("heard", AB, ("known",)),
                ("took", (2, (AB, BC), (FAR,)), ((AB, ("a",)), (BC, ("a", "b"))), told[4]), ("lessened", 0, told[5])]
        self.assertTrue(same(house.record(), (1, tuple(rows))))
        house.hear(AC)
        self.assertEqual(house.net(), [AB, BC])
        word, paper = house.sure()
        answer = house.surely(BC)
        rows += [("heard", AC, ("left", ((AB, BC),))), ("net", (AB, BC), ()), ("sure", (word, tuple(paper.items()))),
                 ("surely", BC, answer)]
        self.assertTrue(same(house.record(), (1, tuple(rows))))

    def test_a_net_with_its_paper(self):
        house = Noted(1)
        for link in (AB, BC, AC):
            house.hear(link)
        house.net()
        self.assertTrue(same(house.record()[1][-1], ("net", (AB, BC), ((AC, ((AB, BC)),),))))
        house.strike(BC)
        house.net()
        self.assertTrue(same(house.record()[1][-1], ("net", (AB, AC), ())))

    def test_what_is_unsure(self):
        rows = ring_house().record()[1]
        self.assertEqual([row[-1][0] for row in rows if row[0] in ("sure", "surely")], ["unsure", "open", "open", "in"])
        house = Noted(0)
        house.hear(AB)
        house.strike(AB)
        self.assertTrue(same(("sure", house.sure()), house.record()[1][-1]))

    def test_nothing_else_is_noted(self):
        house = noted_house()
        before = house.record()
        house.many(), house.links(), house.struck(), house.page(), house.between("a", "b"), house.twin(), len(house)
        house.record(), house == house.twin(), house != House(1)
        for call, thing in ((house.hear, None), (house.strike, list(AB)), (house.surely, AB), (house.lessen, 1),
                            (house.take, (0, (AB, AB_LATE), ())), (house.between, "q"), (house.take, None)):
            self.assertIsNotNone(refusal(call, *[thing] * (2 if call == house.between else 1)))
        self.assertTrue(same(house.record(), before))

    def test_an_empty_record(self):
        for r in range(6):
            self.assertTrue(same(Noted(r).record(), (r, ())))
        for thing in [*things(), 6, -1]:
            right = type(thing) is int and 0 <= thing <= 5
            self.assertEqual(refusal(Noted, thing), None if right else ("TooMany", {"most": 5}))

    def test_r_as_it_began(self):
        house = Noted(4)
        house.lessen(3)
        house.lessen(1)
        self.assertEqual((house.record()[0], house.many()), (4, 1))
        self.assertEqual(house.twin().record()[0], 4)

    def test_a_twin_has_its_record_too(self):
        for house in list(some_houses())[::3]:
            before = house.record()
            twin = house.twin()
            self.assertTrue(type(twin) is Noted and twin is not house and twin == house)
            self.assertTrue(same(twin.record(), before))
            twin.strike((7, 7, "q", "z"))
            twin.net()
            self.assertTrue(same(house.record(), before))
            self.assertTrue(same(twin.record()[1][:-2], before[1]))
            self.assertIsNone(judged(twin.record()))
            house.hear(FAR)
            self.assertEqual(len(twin.record()[1]), len(before[1]) + 2)

    def test_it_tells_what_a_house_tells(self):
        pairs = zip(all_deeds(), all_deeds(Noted))
        for (house, _, _, word, thing, told), (noted, _, _, other_word, other_thing, other_told) in list(pairs):
            self.assertEqual((word, thing), (other_word, other_thing))
            self.assertTrue(same(told, other_told))
        for (house, *_), (noted, *_) in zip(list(all_deeds())[-1:], list(all_deeds(Noted))[-1:]):
            for each in (lambda one: one.many(), lambda one: one.links(), lambda one: one.struck(), lambda one: one.net(),
                         lambda one: one.sure(), lambda one: [one.surely(link) for link in one.net()], len,
                         lambda one: one.between("a", "b"), lambda one: one.page()):
                self.assertTrue(same(each(house), each(noted)))

    def test_equal_whether_noted_or_not(self):
        house, noted = House(1), Noted(1)
        self.assertTrue(isinstance(noted, House))
        for link in (AB, BC, AC):
            house.hear(link)
            self.assertTrue(house != noted and noted != house and not house == noted and not noted == house)
            noted.hear(link)
            noted.net()
            self.assertTrue(house == noted and noted == house and not house != noted and not noted != house)
        self.assertTrue(noted.twin() == house.twin())
        for thing in [*things(), noted.page(), noted.record()]:
            self.assertFalse(noted == thing or thing == noted)

    def test_what_is_told_is_the_askers_own(self):
        house = Noted(0)
        house.hear(AB)
        house.net().clear()
        house.links().clear()
        house.struck().append(AB)
        _, paper = house.sure()
        before = house.record()
        paper.clear()
        self.assertTrue(same(house.record(), before))
        self.assertEqual((house.net(), house.struck()), ([AB], []))
        self.assertIsNone(judged(house.record()))


class Judged(unittest.TestCase):
    def test_none_of_what_the_program_writes(self):
        found = []
        for record in RECORDS:
            self.assertIsNone(right_judge(record))
            self.assertIsNone(unchanged(self, judged, record))
            found += [(row[0], row[-1][0]) for row in record[1] if row[-1]]
        for form in (("heard", "known"), ("heard", "left"), ("heard", "new"), ("sure", "sure"), ("sure", "unsure"),
                     ("surely", "in"), ("surely", "open")):
            self.assertGreater(found.count(form), 1, form)
        self.assertEqual({word for word, _ in found}, {*WORDS})

    def test_none_of_all_deeds(self):
        houses = {id(house): house for house, *_ in list(all_deeds(Noted))}
        for house in houses.values():
            self.assertIsNone(judged(house.record()))

    def test_records_at_their_begin(self):
        for r in range(6):
            self.assertIsNone(judged((r, ())))
        for thing in [*things(), 6, -1, (1, []), [1, ()], (True, ()), ("1", ()), (6, ()), (-1, ()), (1,), (1, (), ()),
                      (None, ()), ((), 1), (1, {}), (1, ""), (1, None)]:
            self.assertEqual(unchanged(self, judged, thing), -1)
        for thing in things():
            self.assertEqual(judged((1, thing)), 0 if type(thing) is tuple and thing else None if thing == () else -1)
            right = type(thing) is int and 0 <= thing <= 5
            self.assertEqual(judged((thing, ())), None if right else -1)

    def test_other_ways_sides_papers_and_paths(self):
        right = {}
        for record in RECORDS[::3]:
            r, rows = record
            stand = r, [], []
            for at, row in enumerate(rows):
                links = sorted({*stand[1], *[link for link in row[1:2] if row[0] == "heard"]})
                for other in list(other_rows(links, stand[0], row))[::1 if at < 8 else 7]:
                    whole = with_row(record, at, other)
                    told = judged(whole)
                    self.assertEqual(told, right_judge(whole), (at, whole))
                    form = row[0], row[-1][0] if row[0] in ("sure", "surely", "heard") else None
                    right.setdefault(form, []).append(told != at and not same(other, row))
                stand = right_row(*stand, row)
        for form in (("heard", "left"), ("heard", "new"), ("took", None), ("lessened", None), ("sure", "sure"),
                     ("sure", "unsure"), ("surely", "in"), ("surely", "open")):
            self.assertGreater(sum(right[form]), 0, form)
            self.assertLess(sum(right[form]), len(right[form]), form)

    def test_a_path_of_more_steps_than_are_needed(self):
        house = ring_house()
        at = [row[0] for row in house.record()[1]].index("surely")
        _, link, (word, side, path) = house.record()[1][at]
        ways = {"c": (((0, 2, "c", "d"),), ((0, 3, "c", "d"),))}
        longer = ("surely", link, (word, side, (*path[:2], ("c", "d", ways["c"]))))
        self.assertNotEqual(path, longer[2][2])
        self.assertIsNone(judged(with_row(house.record(), at, longer)))

    def test_one_small_change(self):
        changed = 0
        for record in [noted_house().record(), *SMALL]:
            for thing in otherwise(record):
                told = judged(thing)
                self.assertEqual(told, right_judge(thing), thing)
                changed += told is not None
        self.assertGreater(changed, 10000)

    def test_rows_elsewhere(self):
        for record in RECORDS[::4]:
            r, rows = record
            for at in range(len(rows)):
                rest = (*rows[:at], *rows[at + 1:])
                for spot in range(len(rows)):
                    thing = (r, (*rest[:spot], rows[at], *rest[spot:]))
                    self.assertEqual(judged(thing), right_judge(thing))

    def test_other_words_and_numbers(self):
        for record in [noted_house().record(), *SMALL[::3]]:
            r, rows = record
            for number in range(6):
                self.assertEqual(judged((number, rows)), right_judge((number, rows)))
            for at, row in enumerate(rows):
                for word in [*WORDS, "hear", "strike", "known", "new", "", None, 0, True, ["heard"], ("heard",)]:
                    self.assertEqual(judged(with_row(record, at, (word, *row[1:]))),
                                     right_judge(with_row(record, at, (word, *row[1:]))))
                for other in rows:
                    self.assertEqual(judged(with_row(record, at, (*row[:-1], other[-1]))),
                                     right_judge(with_row(record, at, (*row[:-1], other[-1]))))

    def test_rows_of_other_records(self):
        for record, other in zip(RECORDS, RECORDS[7:]):
            for at, row in enumerate(other[1][:len(record[1])]):
                thing = with_row(record, at, row)
                self.assertEqual(judged(thing), right_judge(thing))

    def test_a_new_one_that_is_not_kept(self):
        late = ("new", ((AB_LATE, ((AB,),)),), ())
        record = (0, (("heard", AB, ("new", (), ((AB, ("a",)),))), ("heard", AB_LATE, late)))
        self.assertEqual(judged(record), 1)
        self.assertEqual(judged(with_row(record, 1, ("heard", AB_LATE, ("left", ((AB,),))))), None)
        self.assertEqual(judged(with_row(record, 1, ("heard", AB_LATE, ("new", (), ((AB_LATE, ("a",)),))))), 1)

    def test_those_that_go_rise(self):
        house = noted_house()
        at = [row[0] for row in house.record()[1]].index("lessened")
        _, r, (gone, stands) = house.record()[1][at]
        self.assertEqual([link for link, _ in gone], [AC, CD_LATE])
        self.assertIsNone(judged(house.record()))
        for other in ((gone[::-1], stands), (gone, stands[::-1]), (gone * 2, stands), (gone, stands * 2),
                      (gone[:1], stands), (gone, stands, ()), (gone,), (), [gone, stands]):
            self.assertEqual(judged(with_row(house.record(), at, ("lessened", r, other))), at)

    def test_truths_are_no_numbers(self):
        house = Noted(1)
        for link in ((0, 1, "a", "b"), (1, 1, "a", "b"), (1, 0, "b", "c")):
            house.hear(link)
        house.take((1, ((0, 0, "a", "b"),), ((0, 1, "b", "c"),)))
        house.lessen(1)
        house.net()
        house.sure()
        house.surely((1, 0, "b", "c"))
        house.lessen(0)
        record = house.record()
        self.assertIsNone(judged(record))

        def truths(thing):
            if type(thing) is tuple:
                for at, part in enumerate(thing):
                    for other in truths(part):
                        yield (*thing[:at], other, *thing[at + 1:])
            elif type(thing) is int and thing in (0, 1):
                yield bool(thing)
        changed = list(truths(record))
        self.assertGreater(len(changed), 50)
        for thing in changed:
            self.assertTrue(thing == record and not same(thing, record))
            self.assertIsNotNone(judged(thing), thing)
            self.assertEqual(judged(thing), right_judge(thing))

    def test_of_anything(self):
        record = noted_house().record()
        r, rows = record
        for thing in things():
            for at, row in enumerate(rows):
                wholes = [thing, (thing, *row[1:]), (*row, thing), (*row[:-1], thing), (thing,), (row[0], thing)]
                wholes += [(*row[:spot], thing, *row[spot + 1:]) for spot in range(1, len(row))]
                answer = row[-1]
                if type(answer) is tuple:
                    for spot, part in enumerate(answer):
                        whole = [thing, (thing,), (part, thing), (thing, part)]
                        if type(part) is tuple:
                            whole += [(*part, thing), (thing, *part), (*part[:-1], thing)]
                            whole += [((*inner[:-1], thing), *part[1:]) for inner in part[:1] if type(inner) is tuple]
                        wholes += [(*row[:-1], (*answer[:spot], other, *answer[spot + 1:])) for other in whole]
                for whole in wholes:
                    told = unchanged(self, judged, with_row(record, at, whole))
                    self.assertEqual(told, right_judge(with_row(record, at, whole)), whole)
            at = [row[0] for row in rows].index("took")
            page, sides, answers = rows[at][1:]
            for other in [(thing, *page[1:]), (page[0], thing, page[2]), (*page[:2], thing), (page[0], (thing,), page[2]),
                          (*page[:2], (thing,)), (*page[:2], (*page[2], thing))]:
                for told_sides in (sides, (), (thing,), ((thing, ("a",)),), ((AB, thing), *sides[1:])):
                    whole = with_row(record, at, ("took", other, told_sides, answers))
                    self.assertEqual(judged(whole), right_judge(whole), whole)

    def test_the_first_wrong_row_is_told(self):
        r, rows = noted_house().record()
        for at in range(len(rows)):
            for late in range(at, len(rows)):
                wrong = list(rows)
                wrong[at] = wrong[late] = ("heard", FAR, ("known",))
                self.assertEqual(judged((r, tuple(wrong))), at)
        self.assertEqual(judged((r, tuple(list(row) for row in rows))), 0)
        self.assertEqual(judged((r, (*rows, ()))), len(rows))
        self.assertEqual(judged((r, (*rows, None))), len(rows))

    def test_nothing_is_sought(self):
        """The judge calls nothing that finds ways or sides, however far down."""
        def sought(*args, **more):
            raise AssertionError("sought")
        spots = [(f"fewkept.{name}", word) for name, words in {
            "ways": ["parted", "_reached", "apart", "wide"], "nets": ["least_way", "_steps_to", "net_paper", "joined"],
            "keeping": ["parted", "weighed", "kept", "keep_paper"],
            "pasts": ["parted", "weighed", "least_way", "_parting_sides", "_steps_from", "sure", "link_sure"],
            "houses": ["parted", "weighed", "kept"], "judging": ["weighed", "net_paper"]}.items() for word in words]
        patches = [mock.patch(f"{name}.{word}", sought) for name, word in spots]
        for patch in patches:
            patch.start()
        try:
            for record in RECORDS:
                self.assertIsNone(judged(record))
            for record in SMALL:
                for thing in list(otherwise(record))[::17]:
                    judged(thing)
        finally:
            for patch in patches:
                patch.stop()

    def test_arguments_by_their_names(self):
        house = Noted(r=1)
        house.hear(link=AB)
        house.strike(link=BC)
        house.surely(link=AB)
        house.take(page=(1, (AB,), ()))
        house.lessen(r=0)
        self.assertEqual(house.between(other="b", one="a"), (1, 1))
        self.assertIsNone(judged(record=house.record()))


class Papers(unittest.TestCase):
    def test_houses_that_stand_alike_note_alike(self):
        for house in list(some_houses())[::4]:
            r, links, struck = house.page()
            other = Noted(5)
            for link in struck[::-1]:
                other.strike(link)
            for link in links[::-1]:
                other.hear(link)
            other.lessen(r)
            self.assertTrue(house == other)
            begins = [len(one.record()[1]) for one in (house, other)]
            for one in (house, other):
                one.net(), one.sure(), one.hear((0, 5, "a", "zz")), one.take((5, links, struck)), one.lessen(0)
                for link in one.net():
                    one.surely(link)
            told, again = [one.record()[1][begin:] for one, begin in zip((house, other), begins)]
            self.assertEqual(strict(told), strict(again))

    def test_papers_are_those_of_nets(self):
        for record in RECORDS[::5]:
            stand = record[0], [], []
            for row in record[1]:
                if row[0] == "net":
                    self.assertTrue(same(row[2], tuple(net_paper(stand[1], struck=stand[2]).items())))
                stand = right_row(*stand, row)
