"""Stage 6: houses, what they hear, strike, keep, lessen, give and take."""

import random
import unittest
from itertools import permutations

from fewkept.houses import House
from fewkept.keeping import kept
from fewkept.nets import net
from fewkept.pasts import between, link_sure, sure
from tests.deeds import all_deeds, right_answer, right_lessen
from tests.helper import GOOD, otherwise, random_set, refusal, same, things, unchanged
from tests.slow import slow_kept, spots, strict

AB, BC, AC, AB_LATE, CD = (1, 0, "a", "b"), (2, 0, "b", "c"), (3, 0, "a", "c"), (4, 0, "a", "b"), (5, 0, "c", "d")
FAR = (9, 9, "x", "y")
NO_LINK, NO_PAGE = ("NoLink", {"at": 0}), ("NoPage", {})


def house_of(r, links, struck=()):
    """A house for so many strikes that heard these links, in this order, and then these strikes."""
    house = House(r)
    for link in links:
        house.hear(link)
    for link in struck:
        house.strike(link)
    return house


def stand(house):
    return house.many(), house.links(), house.struck()


class Hear(unittest.TestCase):
    def test_new_known_and_left(self):
        house = House(0)
        self.assertEqual(house.hear(AB), ("new", (), ((AB, ("a",)),)))
        self.assertEqual(house.hear(AB), ("known",))
        self.assertEqual(house.hear(AB_LATE), ("left", ((AB,),)))
        self.assertEqual(house.hear(AB_LATE), ("left", ((AB,),)))
        self.assertEqual(house.hear(AC), ("new", (), ((AC, ("a", "b")),)))
        self.assertEqual(house.hear(BC), ("new", ((AC, ((AB, BC),)),), ((BC, ("a", "b")),)))
        self.assertEqual(house.links(), [AB, BC])
        self.assertEqual(house.hear(AC), ("left", ((AB, BC),)))

    def test_what_stands_is_told_from_the_new_one_on(self):
        house = house_of(1, [AB, AC, CD])
        word, gone, stands = house.hear(BC)
        self.assertEqual((word, gone, [link for link, _ in stands]), ("new", (), [BC, AC, CD]))

    def test_several_go_at_once(self):
        late = [(7, 0, "a", "d"), (8, 0, "b", "d")]
        house = house_of(1, [AB, AC, CD, *late])
        self.assertEqual(house.links(), sorted([AB, AC, CD, *late]))
        word, gone, _ = house.hear(BC)
        self.assertEqual((word, [link for link, _ in gone]), ("new", [late[1]]))
        tellings = [told for _, _, _, word, _, told in all_deeds() if word == "hear" and told[0] == "new"]
        self.assertTrue(any(len(gone) > 1 for _, gone, _ in tellings))

    def test_five_strikes(self):
        house = House(5)
        for cost in range(6):
            self.assertEqual(house.hear((cost, 0, "a", "b"))[:2], ("new", ()))
        self.assertEqual(house.hear((6, 0, "a", "b")), ("left", tuple(((cost, 0, "a", "b"),) for cost in range(6))))
        word, gone, stands = house.hear((0, 0, "a", "bb"))
        self.assertEqual((word, gone, len(stands)), ("new", (), 6))
        self.assertEqual(len(house), 7)

    def test_of_anything(self):
        house = house_of(1, [AB, BC], [AB])
        for thing in [*things(), list(AB), (True, 0, "a", "b"), (1, False, "a", "b")]:
            for call in (house.hear, house.strike, house.surely):
                before = stand(house)
                self.assertEqual(refusal(unchanged, self, call, thing), NO_LINK)
                self.assertEqual(stand(house), before)


class Strike(unittest.TestCase):
    def test_new_and_known(self):
        house = House(0)
        self.assertEqual([house.strike(link) for link in (AB, CD, AB, AC, CD)], ["new", "new", "known", "new", "known"])
        self.assertEqual(house.struck(), [AB, AC, CD])
        self.assertEqual((house.links(), len(house)), ([], 0))

    def test_ahead_of_its_coming(self):
        house = House(1)
        self.assertEqual(house.strike(AB), "new")
        self.assertEqual(house.hear(AB), ("new", (), ((AB, ("a",)),)))
        self.assertEqual((house.links(), house.net()), ([AB], []))
        self.assertEqual(house.strike(AB), "known")
        self.assertEqual(house.hear(AB), ("known",))

    def test_struck_ones_are_kept_left_and_counted_as_any(self):
        for r in range(4):
            links, struck = random_set(random.Random(r), "abcd", 12)
            free, bound = House(r), House(r)
            for link in struck:
                bound.strike(link)
            for link in links:
                self.assertTrue(same(free.hear(link), bound.hear(link)))
            self.assertEqual(free.links(), bound.links())
        house = house_of(0, [AB, AC], [AB, AC])
        self.assertEqual(house.hear(BC)[:2], ("new", ((AC, ((AB, BC),)),)))
        self.assertEqual(house.hear(AB_LATE), ("left", ((AB,),)))
        self.assertEqual((len(house), house.net(), house.struck()), (2, [BC], [AB, AC]))


class Lessen(unittest.TestCase):
    def test_to_the_same_number(self):
        house = house_of(2, [AB, BC, AC, AB_LATE], [AB])
        before = stand(house)
        gone, stands = house.lessen(2)
        self.assertEqual((gone, [link for link, _ in stands], stand(house)), ((), house.links(), before))

    def test_to_none(self):
        house = house_of(2, [AB, BC, AC, AB_LATE, CD], [BC])
        gone, stands = house.lessen(0)
        self.assertEqual(gone, ((AC, ((AB, BC),)), (AB_LATE, ((AB,),))))
        self.assertEqual([link for link, _ in stands], [AB, BC, CD])
        self.assertEqual(stand(house), (0, [AB, BC, CD], [BC]))
        self.assertEqual(house.lessen(0)[0], ())
        self.assertEqual(House(3).lessen(1), ((), ()))

    def test_refused(self):
        for r in range(6):
            house = house_of(r, [AB, BC, AC, AB_LATE], [AB])
            before = stand(house)
            for thing in [*things(), r + 1, 6, 7, -1, "0", [0], (0,), None, True, False]:
                if type(thing) is not int or not 0 <= thing <= r:
                    self.assertEqual(refusal(unchanged, self, house.lessen, thing), ("TooMany", {"most": r}))
                    self.assertEqual(stand(house), before)
        house.lessen(3)
        self.assertEqual(refusal(house.lessen, 4), ("TooMany", {"most": 3}))

    def test_by_each_number(self):
        for seed in range(20):
            links, _ = random_set(random.Random(seed), "abcd", 10)
            for many in range(4):
                for r in range(many + 1):
                    house = house_of(many, links)
                    ahead = house.links()
                    told = house.lessen(r)
                    self.assertTrue(right_lessen(ahead, r, told))
                    self.assertEqual((house.many(), house.links()), (r, slow_kept(links, r)))


class Pages(unittest.TestCase):
    def test_pages(self):
        self.assertTrue(same(House(3).page(), (3, (), ())))
        self.assertTrue(same(house_of(1, [AC, AB], [FAR, AB]).page(), (1, (AB, AC), (AB, FAR))))

    def test_taken_by_a_house_for_as_many_and_for_fewer_strikes(self):
        page = house_of(2, [AB, AB_LATE, BC, AC], [AC, FAR]).page()
        for r in range(3):
            house = house_of(r, [CD], [CD])
            answers = house.take(page)
            words = [answer[0] for answer in answers]
            self.assertEqual(words, ["new", "new", "new" if r > 0 else "left", "new" if r > 1 else "left"])
            self.assertEqual(stand(house), (r, slow_kept([AB, AB_LATE, BC, AC, CD], r), [AC, CD, FAR]))
            self.assertEqual({answer[0] for answer in house.take(page)}, {"known", "left"} if r < 2 else {"known"})

    def test_taken_by_a_house_for_more_strikes(self):
        for many in range(5):
            page = house_of(many, [AB, BC, AC], [AB]).page()
            for r in range(many + 1, 6):
                house = house_of(r, [CD])
                self.assertEqual(refusal(unchanged, self, house.take, page), NO_PAGE)
                self.assertEqual(stand(house), (r, [CD], []))

    def test_taken_by_itself(self):
        house = house_of(1, [AB, BC, AC, AB_LATE], [AC])
        before = stand(house)
        self.assertEqual(house.take(house.page()), (("known",),) * 3)
        self.assertEqual(stand(house), before)
        self.assertEqual(House(0).take(House(5).page()), ())

    def test_told_is_what_hear_would_tell(self):
        for seed in range(30):
            dice = random.Random(seed)
            links, struck = random_set(dice, "abcd", 9)
            page = house_of(2, links, struck).page()
            house = house_of(dice.randint(0, 2), random_set(dice, "abcd", 6)[0], [CD])
            twin = house.twin()
            answers = unchanged(self, house.take, page)
            self.assertTrue(same(answers, tuple(twin.hear(link) for link in page[1])))
            for link in page[2]:
                twin.strike(link)
            self.assertEqual(house, twin)

    def test_what_is_no_page(self):
        house = House(1)
        twice = (0, (AB, AB_LATE), ())
        for thing in [twice, (1, (AB, (3, 0, "a", "b"), AB_LATE), ()), (1, [AB], ()), (1, (AB,), [AB]), [1, (AB,), ()],
                      (1, (AB, AB), ()), (1, (BC, AB), ()), (1, (), (BC, AB)), (1, (), (AB, AB)), (1, (AB,)), (1,), (),
                      (1, (AB,), (), ()), (True, (AB,), ()), (6, (AB,), ()), (-1, (), ()), ("1", (), ()), (None, (), ()),
                      (1, None, ()), (1, (), None), (1, "", ""), (1, {}, ()), (1, AB, ()), (1, (), AB), (0, (), ()),
                      (1, (list(AB),), ()), (1, ((True, 0, "a", "b"),), ()), (1, (), ((1, 0, "b", "a"),))]:
            self.assertEqual(refusal(unchanged, self, house.take, thing), NO_PAGE, thing)
            self.assertEqual(stand(house), (1, [], []))
        self.assertEqual(refusal(House(0).take, twice), NO_PAGE)
        self.assertIsNone(refusal(House(0).take, (1, *twice[1:])))

    def test_of_anything(self):
        page = house_of(1, [AB, BC], [AC]).page()
        for thing in things():
            house = house_of(1, [CD], [CD])
            before = stand(house)
            for whole in [thing, (thing, *page[1:]), (1, thing, ()), (1, (), thing), (1, (thing,), ()), (1, (), (thing,)),
                          (1, (*page[1], thing), ()), (1, (), (thing, *page[2])), (*page, thing), (1, ((thing, 0, "a", "b"),), ()),
                          (1, (), ((0, 0, "a", thing),))]:
                if not self.right_page(whole, 1):
                    self.assertEqual(refusal(unchanged, self, house.take, whole), NO_PAGE, whole)
                    self.assertEqual(stand(house), before)

    def right_page(self, thing, r):
        """Whether anything is a page of a house for as many strikes or more, by its words."""
        if type(thing) is not tuple or len(thing) != 3 or type(thing[0]) is not int or not r <= thing[0] <= 5:
            return False
        for row in thing[1:]:
            if type(row) is not tuple or any(refusal(House(0).hear, link) for link in row):
                return False
            if list(row) != sorted(set(row)):
                return False
        return slow_kept(thing[1], thing[0]) == list(thing[1])

    def test_one_small_change(self):
        for page in (house_of(1, [AB, BC, AC], [AB, FAR]).page(), house_of(0, [AB, CD], [AB]).page(), (2, (), ())):
            for thing in otherwise(page):
                for r in (0, 1):
                    right = self.right_page(thing, r)
                    house = House(r)
                    self.assertEqual(refusal(house.take, thing), None if right else NO_PAGE, thing)
                    self.assertEqual(house.page()[1:], (tuple(kept(thing[1], r)), thing[2]) if right else ((), ()))


class Told(unittest.TestCase):
    def test_an_empty_house(self):
        for r in range(6):
            house = House(r)
            self.assertTrue(same([house.many(), house.links(), house.struck(), house.net(), house.sure(), len(house)],
                                 [r, [], [], [], ("sure", {}), 0]))
            self.assertEqual(refusal(house.surely, AB), NO_LINK)
            self.assertEqual(refusal(house.between, "a", "b"), ("NoPlace", {"place": "a"}))

    def test_as_of_what_it_keeps_behind_its_strikes(self):
        for house, _, _, _, _, _ in all_deeds():
            r, links, struck = house.page()
            self.assertTrue(same(house.net(), net(links, struck=struck)))
            self.assertTrue(same(house.sure(), sure(links, r, struck=struck)))
            for link in house.net():
                self.assertTrue(same(house.surely(link), link_sure(links, r, link, struck=struck)))
            for one, other in list(permutations(spots(links), 2))[:3]:
                self.assertTrue(same(house.between(one, other), between(links, r, one, other, struck=struck)))

    def test_links_that_are_not_in_the_net(self):
        house = house_of(1, [AB, BC, AC, CD], [CD])
        for link in (AC, CD, AB_LATE, FAR):
            self.assertEqual(refusal(house.surely, link), NO_LINK)
        self.assertEqual(house.surely(AB)[0], "in")

    def test_places_that_it_does_not_join(self):
        house = house_of(1, [AB, BC], [FAR])
        for thing in [*things(), "x", "d", "ab"]:
            self.assertEqual(refusal(house.between, thing, "x"), ("NoPlace", {"place": thing}))
            self.assertEqual(refusal(house.between, "a", thing), ("NoPlace", {"place": thing}))
        self.assertEqual(refusal(house.between, "x", "y"), ("NoPlace", {"place": "x"}))
        self.assertEqual(refusal(house.between, "b", "b"), ("NoPlace", {"place": "b"}))

    def test_how_many_strikes(self):
        for thing in [*things(), 6, -1, "1", True]:
            right = type(thing) is int and 0 <= thing <= 5
            self.assertEqual(refusal(House, thing), None if right else ("TooMany", {"most": 5}))

    def test_what_only_tells_changes_nothing(self):
        for house, _, _, _, _, _ in list(all_deeds())[::9]:
            before = stand(house)
            house.net(), house.sure(), house.page(), house.twin(), len(house), house == house
            for link in house.net():
                house.surely(link)
            self.assertTrue(same(before, stand(house)))

    def test_what_is_told_is_new(self):
        house = house_of(0, [AB, BC], [BC, FAR])
        before = strict(stand(house))
        for call in (house.links, house.struck, house.net):
            told = call()
            self.assertIsNot(told, call())
            told.clear()
            told.append(FAR)
            self.assertEqual(strict(stand(house)), before)
        free = house_of(0, [AB])
        free.sure()[1].clear()
        self.assertEqual(free.sure(), ("sure", {("a", "b"): (1, (AB,), ("a",))}))

    def test_arguments_by_their_names(self):
        house = House(r=1)
        self.assertEqual(house.hear(link=AB)[0], "new")
        self.assertEqual(house.strike(link=BC), "new")
        self.assertEqual(house.surely(link=AB)[0], "in")
        self.assertEqual(house.between(other="b", one="a"), (1, 1))
        self.assertEqual(house.take(page=(1, (AB,), ())), (("known",),))
        self.assertEqual(house.lessen(r=0)[0], ())


class Alike(unittest.TestCase):
    def test_equal_just_where_all_three_are_alike(self):
        rows = [house_of(r, links, struck) for r in (0, 1) for links in ([], [AB], [AB, BC]) for struck in ([], [AB], [FAR])]
        for at, house in enumerate(rows):
            for number, other in enumerate(rows):
                self.assertIs(house == other, at == number)
                self.assertIs(house != other, at != number)
        for house in rows:
            for thing in [*things(), GOOD, house.page(), list(house.page()), House, house.links()]:
                self.assertIs(house == thing, False)
                self.assertIs(thing == house, False)
                self.assertIs(house != thing, True)

    def test_twins_go_on_by_themselves(self):
        for house, _, _, _, _, _ in list(all_deeds())[::7]:
            twin = house.twin()
            self.assertIs(type(twin), House)
            self.assertIsNot(twin, house)
            self.assertTrue(house == twin and same(stand(house), stand(twin)))
            before = stand(house)
            twin.hear((0, 0, "aa", "zz"))
            twin.strike((0, 0, "aa", "zz"))
            twin.lessen(0)
            self.assertEqual(stand(house), before)
            self.assertNotEqual(house, twin)
            again = house.twin()
            before = stand(again)
            house.twin().take((5, (FAR,), (FAR,)))
            self.assertEqual(stand(again), before)

    def test_many_orders(self):
        links = [AB, BC, AC, AB_LATE, CD]
        for r in range(3):
            houses = [house_of(r, order, order[2:4][::-1]) for order in permutations(links)]
            for house in houses:
                self.assertEqual(house.links(), slow_kept(links, r))
                self.assertEqual(house == houses[0], house.struck() == houses[0].struck())

    def test_whatever_road_it_came(self):
        dice = random.Random(8)
        for house, _, own, _, _, _ in list(all_deeds())[::5]:
            links = sorted(own.came)
            straight, other = House(own.r), House(5)
            for link in dice.sample(links, len(links)):
                straight.hear(link)
                other.hear(link)
                if dice.random() < 0.3:
                    other.lessen(dice.randint(own.r, other.many()))
            for link in own.struck()[::-1]:
                straight.strike(link)
                other.strike(link)
            other.lessen(own.r)
            self.assertTrue(house == straight == other)
            asked = [random_set(dice, "abcde", 1)[0][0] for _ in range(3)]
            for each in (lambda one: one.net(), lambda one: one.sure(), lambda one: one.page(),
                         lambda one: [one.surely(link) for link in one.net()],
                         lambda one: [one.twin().hear(link) for link in asked],
                         lambda one: [one.between(*pair) for pair in list(permutations(spots(one.links()), 2))[:4]],
                         lambda one: one.twin().lessen(max(0, own.r - 1))):
                self.assertTrue(same(each(house), each(straight)))
                self.assertTrue(same(each(house), each(other)))


class Deeds(unittest.TestCase):
    def test_what_is_kept_is_what_is_kept_of_all_that_ever_came(self):
        for house, _, own, _, _, _ in all_deeds():
            self.assertTrue(same(house.links(), own.links()))
            self.assertTrue(same(house.struck(), own.struck()))
            self.assertEqual((house.many(), len(house)), (own.r, len(own.links())))

    def test_each_answer_by_slow_reckoning(self):
        words = []
        for house, ahead, own, word, thing, told in all_deeds():
            self.assertTrue(right_answer(ahead, own, word, thing, told), (ahead, word, thing, told))
            words.append(told[0] if word == "hear" else word)
        for word, many in (("known", 100), ("left", 300), ("new", 500), ("take", 200), ("lessen", 50), ("strike", 200)):
            self.assertGreater(words.count(word), many)
