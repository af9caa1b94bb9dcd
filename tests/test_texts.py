"""Stage 8: texts of links and of pages, and what is read of them."""

import random
import re
import unittest

from fewkept.houses import House
from fewkept.texts import link_text, page_text, read_link, read_page
from tests.deeds import all_deeds
from tests.helper import otherwise, random_set, refusal, same, things, unchanged
from tests.records import right_page, right_place_of
from tests.slow import slow_kept

AB, BC, AC, AB_LATE = (1, 0, "a", "b"), (2, 0, "b", "c"), (3, 0, "a", "c"), (10, 20, "a", "b")
FAR = (10 ** 6, 0, "x", "zzzzzz")
PAGES = [(0, (), ()), (5, (), ()), (0, (AB,), ()), (1, (), (AB, FAR)), (1, (AB, BC, AC), (AB, FAR)),
         (2, (AB, BC, AC, AB_LATE, FAR), (AC,)), (0, (AB, BC), (AB, AB_LATE))]
TEXT = "keeps 1\n1 0 a b\n2 0 b c\n3 0 a c\nstruck 1 0 a b\nstruck 1000000 0 x zzzzzz\n"
SIGNS = "\n 019abksz~-A"
NUMBER = r"(0|[1-9]\d{0,6})"
LINK = re.compile(rf"{NUMBER} {NUMBER} ([a-z]{{1,6}}) ([a-z]{{1,6}})")


def slow_link(text):
    """The link whose text this is, by the form of its words; None where there is none."""
    found = LINK.fullmatch(text)
    if not found:
        return None
    cost, mark, one, other = found.groups()
    link = int(cost), int(mark), one, other
    return link if max(link[:2]) <= 10 ** 6 and one < other else None


def slow_page(text):
    """The page whose text this is, or the number of the first row with which no page's text begins."""
    rows = re.findall(r"[^\n]*\n|[^\n]+", text)
    if not rows:
        return 0
    page = None
    for at, row in enumerate(rows):
        page = slow_row(page, row)
        if page is None:
            return at
    return page


def slow_row(page, row):
    """The page of rows ahead and of this one; None where there is none such."""
    if not row.endswith("\n"):
        return None
    if page is None:
        return (int(row[6]), (), ()) if re.fullmatch(r"keeps [0-5]\n", row) else None
    r, links, struck = page
    head, _, tail = row[:-1].rpartition("struck ")
    link = slow_link(tail)
    if head or link is None:
        return None
    page = (r, links, (*struck, link)) if row.startswith("struck ") else (r, (*links, link), struck)
    if page[1] != links and struck:
        return None
    return page if right_page(page, 0) else None


def near_texts(text, signs=SIGNS):
    """Every text that is made of this one by one sign put in, out or exchanged."""
    for at in range(len(text) + 1):
        for sign in signs:
            yield text[:at] + sign + text[at:]
            yield text[:at] + sign + text[at + 1:]
        yield text[:at] + text[at + 1:]


class Links(unittest.TestCase):
    def test_texts(self):
        for link, text in ((AB, "1 0 a b"), ((0, 0, "a", "aa"), "0 0 a aa"), (FAR, "1000000 0 x zzzzzz"),
                           ((10, 10 ** 6, "abcdef", "abcdeg"), "10 1000000 abcdef abcdeg")):
            self.assertTrue(same(unchanged(self, link_text, link), text))
            self.assertTrue(same(unchanged(self, read_link, text), link))

    def test_there_and_back(self):
        dice = random.Random(4)
        for _ in range(300):
            names = sorted("".join(dice.choices("abyz", k=dice.randint(1, 6))) for _ in range(2))
            link = (dice.randint(0, 10 ** dice.randint(0, 6)), dice.randint(0, 10 ** dice.randint(0, 6)), *names)
            if right_place_of(link):
                self.assertTrue(same(read_link(link_text(link)), link))

    def test_what_is_no_link(self):
        for thing in things():
            for whole in (thing, (thing, 7, "a", "b"), (3, thing, "a", "b"), (3, 7, thing, "b"), (3, 7, "a", thing)):
                told = refusal(unchanged, self, link_text, whole)
                self.assertEqual(told, None if right_place_of(whole) else ("NoLink", {"at": 0}), whole)

    def test_what_is_no_text_of_a_link(self):
        for text in ("", " ", "1 0 a b ", " 1 0 a b", "1  0 a b", "1 0 a  b", "01 0 a b", "1 00 a b", "1 0 b a", "1 0 a a",
                     "1 0 a", "1 0 a b c", "1000001 0 a b", "1 1000001 a b", "1 0 a abcdefg", "1 0 A b", "-1 0 a b",
                     "+1 0 a b", "1_0 0 a b", "1.0 0 a b", "1 0 a b\n", "1\n0 a b", "a b 1 0", "1 0  b", "9" * 40 + " 0 a b",
                     "1 a b", "1, 0, a, b", "(1, 0, 'a', 'b')", "a", "1", "struck 1 0 a b", "keeps 1"):
            self.assertEqual(refusal(read_link, text), ("NoText", {"at": 0}), text)
        for thing in things():
            if type(thing) is not str or slow_link(thing) is None:
                self.assertEqual(refusal(unchanged, self, read_link, thing), ("NoText", {"at": 0}))

    def test_one_sign_otherwise(self):
        for link in (AB, (10, 7, "ab", "b"), (0, 0, "x", "zzzzzz"), (10 ** 6, 99, "a", "z")):
            for text in near_texts(link_text(link)):
                right = slow_link(text)
                told = refusal(read_link, text)
                self.assertEqual(told, ("NoText", {"at": 0}) if right is None else None, text)
                if right is not None:
                    self.assertTrue(same(read_link(text), right))

    def test_arguments_by_their_names(self):
        self.assertEqual(link_text(link=AB), "1 0 a b")
        self.assertEqual(read_link(text="1 0 a b"), AB)
        self.assertEqual(page_text(page=PAGES[0]), "keeps 0\n")
        self.assertEqual(read_page(text="keeps 0\n"), PAGES[0])


class Pages(unittest.TestCase):
    def read(self, text):
        """What is read of a text, or the number of the row that is refused, when this alone is refused."""
        told = refusal(read_page, text)
        if told is None:
            return read_page(text)
        self.assertEqual((told[0], list(told[1])), ("NoText", ["at"]))
        return told[1]["at"]

    def test_texts(self):
        self.assertTrue(same(unchanged(self, page_text, PAGES[4]), TEXT))
        self.assertTrue(same(unchanged(self, read_page, TEXT), PAGES[4]))
        for r in range(6):
            self.assertEqual(page_text((r, (), ())), f"keeps {r}\n")
            self.assertTrue(same(read_page(f"keeps {r}\n"), (r, (), ())))
        self.assertEqual(page_text(PAGES[3]), "keeps 1\nstruck 1 0 a b\nstruck 1000000 0 x zzzzzz\n")

    def test_there_and_back(self):
        for page in [*PAGES, *[house.page() for house, *_ in all_deeds()]]:
            text = page_text(page)
            self.assertTrue(same(read_page(text), page))
            self.assertTrue(same(slow_page(text), page))
            self.assertEqual(text.count("\n"), 1 + len(page[1]) + len(page[2]))

    def test_what_is_no_page(self):
        for thing in [*things(), (1, [AB], ()), [1, (AB,), ()], (True, (), ()), (6, (), ()), (0, (AB, AB_LATE), ()),
                      (1, (AB, AB), ()), (1, (BC, AB), ()), (1, (), (BC, AB)), (1, ()), TEXT]:
            self.assertEqual(refusal(unchanged, self, page_text, thing), ("NoPage", {}))
        for page in PAGES[1:]:
            for thing in otherwise(page):
                self.assertEqual(refusal(page_text, thing), None if right_page(thing, 0) else ("NoPage", {}), thing)
                if right_page(thing, 0):
                    self.assertTrue(same(read_page(page_text(thing)), thing))

    def test_the_first_row_with_which_no_text_begins(self):
        for text, at in [
                ("", 0), ("\n", 0), ("keeps 1", 0), ("keeps", 0), ("keeps \n", 0), ("keeps 6\n", 0), ("keeps 01\n", 0),
                ("keeps 10\n", 0), ("keeps -1\n", 0), ("keeps  1\n", 0), ("keeps 1 \n", 0), (" keeps 1\n", 0),
                ("Keeps 1\n", 0), ("1 0 a b\n", 0), ("struck 1 0 a b\n", 0), ("\nkeeps 1\n", 0), ("keeps a\n", 0),
                ("keeps 1\n\n", 1), ("keeps 1\n1 0 a b", 1), ("keeps 1\n1 0 a b\n2 0 a", 2), ("keeps 1\nx", 1),
                ("keeps 1\nkeeps 1\n", 1), ("keeps 1\n1 0 b a\n", 1), ("keeps 1\n01 0 a b\n", 1), ("keeps 1\n ", 1),
                ("keeps 1\n2 0 a b\n1 0 a b\n", 2), ("keeps 1\n2 0 a b\n2 0 a b\n", 2), ("keeps 0\n1 0 a b\n2 0 a b\n", 2),
                ("keeps 1\n1 0 a b\n2 0 a b\n3 0 a b\n", 3), ("keeps 1\n1 0 a b\n2 0 a b\n3 0 a c\n4 0 b c\n5 0 b c\n", 5),
                ("keeps 1\nstruck 1 0 a b\n1 0 a b\n", 2), ("keeps 1\nstruck 1 0 a b\nstruck 1 0 a b\n", 2),
                ("keeps 1\nstruck 2 0 a b\nstruck 1 0 a b\n", 2), ("keeps 1\nstruck\n", 1), ("keeps 1\nstruck \n", 1),
                ("keeps 1\nstruck 1 0 a b", 1), ("keeps 1\nstruck  1 0 a b\n", 1), ("keeps 1\nstruck 1 0 a b \n", 1),
                ("keeps 1\nstruck struck 1 0 a b\n", 1), ("keeps 1\n 1 0 a b\n", 1), ("keeps 1\n1 0 a b\n\n2 0 a b\n", 2),
                ("keeps 1\n1000001 0 a b\n", 1), ("keeps 1\n1 0 a abcdefg\n", 1), ("keeps 1\nstruck1 0 a b\n", 1)]:
            self.assertEqual(self.read(text), at, text)
            self.assertEqual(slow_page(text), at, text)

    def test_one_sign_otherwise(self):
        for page in PAGES:
            for text in near_texts(page_text(page)):
                self.assertTrue(same(self.read(text), slow_page(text)), text)

    def test_one_row_otherwise(self):
        for page in PAGES:
            rows = page_text(page).splitlines(True)
            for at, row in enumerate(rows):
                rest = rows[:at] + rows[at + 1:]
                for spot in range(len(rows) + 1):
                    for other in (rest[:spot] + [row] + rest[spot:], rows[:spot] + [row] + rows[spot:], rest):
                        text = "".join(other)
                        self.assertTrue(same(self.read(text), slow_page(text)), text)

    def test_rows_ahead_of_a_refused_one_begin_a_page(self):
        dice = random.Random(3)
        for _ in range(300):
            r = dice.randint(0, 2)
            links, struck = random_set(dice, "abc", 6)
            rows = sorted(set(links)) if dice.random() < 0.7 else links
            rows = [f"keeps {r}\n", *[link_text(link) + "\n" for link in rows],
                    *[f"struck {link_text(link)}\n" for link in sorted(set(struck))]]
            text = "".join(rows)
            told = self.read(text)
            self.assertTrue(same(told, slow_page(text)))
            if type(told) is int:
                self.assertGreater(told, 0)
                self.assertEqual(page_text(read_page("".join(rows[:told]))), "".join(rows[:told]))
                self.assertEqual(self.read("".join(rows[:told + 1])), told)

    def test_of_anything(self):
        for thing in things():
            self.assertEqual(refusal(unchanged, self, read_page, thing), ("NoText", {"at": 0}))


class Again(unittest.TestCase):
    def test_a_house_made_anew_of_a_page_goes_on_alike(self):
        dice = random.Random(17)
        for house, *_ in list(all_deeds())[::3]:
            page = read_page(page_text(house.page()))
            anew = House(page[0])
            answers = anew.take(page)
            self.assertTrue(all(answer[:2] == ("new", ()) for answer in answers))
            self.assertTrue(anew == house and same(anew.page(), house.page()))
            twin = house.twin()
            for link in random_set(dice, "abcde", 4)[0]:
                self.assertTrue(same(anew.hear(link), twin.hear(link)))
                self.assertTrue(same(anew.strike(link), twin.strike(link)))
                self.assertTrue(same((anew.net(), anew.sure()), (twin.net(), twin.sure())))
            self.assertTrue(same(anew.lessen(anew.many() // 2), twin.lessen(twin.many() // 2)))
            self.assertTrue(anew == twin and anew.links() == slow_kept(anew.links(), anew.many()))
