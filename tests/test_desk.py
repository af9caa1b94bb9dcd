"""Stage 8: the desk, and what it answers to rows of words."""

import random
import re
import unittest

from fewkept.desk import Desk
from tests.deeds import Slow
from tests.helper import random_set, refusal, things, unchanged
from tests.slow import (all_pasts, fewest_alike, gaps_between, pairs_of, row_net, slow_kept, slow_strikes, slow_wide,
                        spots)
from tests.test_texts import near_texts, slow_link

WORDS = ["link", "strike", "net", "sure", "surely", "between", "why", "wide", "keeps", "lessen"]


def answers(desk, rows):
    return [desk.answer(row) for row in rows]


def text_of(link):
    return " ".join(str(part) for part in link)


class SlowDesk:
    """The desk by the document's words, by all that ever came and by slow plain reckoning."""

    def __init__(self, r):
        self.house = Slow(r)

    def answer(self, row):
        word, *rest = row.split(" ")
        link = slow_link(" ".join(rest))
        if word in ("link", "strike", "surely", "why") and link is not None:
            return getattr(self, word)(link)
        if word in ("between", "wide") and len(rest) == 2 and all(re.fullmatch("[a-z]{1,6}", name) for name in rest):
            known = spots(self.house.links())
            if rest[0] == rest[1] or rest[0] not in known or rest[1] not in known:
                return "no noplace"
            return getattr(self, word)(*rest)
        if word in ("net", "sure", "keeps") and not rest:
            return getattr(self, word)()
        if word == "lessen" and len(rest) == 1 and re.fullmatch(r"0|[1-9]\d{0,39}", rest[0]):
            return self.lessen(int(rest[0]))
        return "what"

    def link(self, link):
        ahead = self.house.links()
        self.house.came.add(link)
        now = self.house.links()
        if link in ahead:
            return "known"
        gone = [row for row in ahead if row not in now]
        return "left" if link not in now else f"new, gone {len(gone)}" if gone else "new"

    def strike(self, link):
        told = "known" if link in self.house.gone else "new"
        self.house.gone.add(link)
        return told

    def chosen(self):
        return row_net(self.house.links(), self.house.gone)

    def net(self):
        return ", ".join(text_of(link) for link in self.chosen()) or "-"

    def sure(self):
        nets = [row_net(row, self.house.gone) for row in all_pasts(self.house.links(), self.house.r, 1)]
        return "sure" if all(other == nets[0] for other in nets) else "unsure"

    def surely(self, link):
        if link not in self.chosen():
            return "no nolink"
        fewest = fewest_alike(self.house.links(), self.house.r, link, self.house.gone)
        return "in" if fewest is None else f"open {fewest}"

    def between(self, one, other):
        gaps = gaps_between(self.house.links(), self.house.r, one, other, self.house.gone)
        return " ".join("-" if gap is None else str(gap) for gap in gaps)

    def why(self, link):
        if link not in self.house.links():
            return "left"
        return f"kept {slow_strikes(self.house.came, link, self.house.r)}"

    def wide(self, one, other):
        return str(slow_wide(self.house.links(), one, other))

    def keeps(self):
        return str(len(self.house.links()))

    def lessen(self, r):
        if r > self.house.r:
            return "no toomany"
        ahead = self.house.links()
        self.house.r = r
        return str(len(ahead) - len(slow_kept(ahead, r)))


class Answers(unittest.TestCase):
    def test_each_form(self):
        desk = Desk(1)
        rows = [("link 1 0 a b", "new"), ("link 1 0 a b", "known"), ("link 3 0 a c", "new"), ("link 9 0 a b", "new"),
                ("link 2 0 b c", "new, gone 1"), ("link 9 0 a b", "left"), ("keeps", "3"), ("net", "1 0 a b, 2 0 b c"),
                ("sure", "sure"), ("surely 2 0 b c", "in"), ("surely 3 0 a c", "no nolink"), ("between a c", "2 2"),
                ("why 3 0 a c", "kept 1"), ("why 1 0 a b", "kept 0"), ("why 9 0 a b", "left"), ("wide a c", "2"),
                ("strike 1 0 a b", "new"), ("strike 1 0 a b", "known"), ("net", "2 0 b c, 3 0 a c"),
                ("why 3 0 a c", "kept 1"), ("wide a b", "2"), ("between b a", "3 3"), ("sure", "sure"),
                ("strike 2 0 b c", "new"), ("net", "3 0 a c"), ("between b a", "3 -"), ("sure", "unsure"),
                ("lessen 2", "no toomany"), ("lessen 0", "1"), ("lessen 0", "0"), ("lessen 1", "no toomany"),
                ("keeps", "2"), ("net", "-"), ("sure", "unsure"), ("between c b", "2 -"), ("why 3 0 a c", "left")]
        self.assertEqual(answers(desk, [row for row, _ in rows]), [told for _, told in rows])

    def test_an_empty_house(self):
        rows = [("net", "-"), ("sure", "sure"), ("keeps", "0"), ("between a b", "no noplace"), ("wide a b", "no noplace"),
                ("why 1 0 a b", "left"), ("surely 1 0 a b", "no nolink"), ("strike 1 0 a b", "new"), ("lessen 0", "0")]
        for r in range(6):
            self.assertEqual(answers(Desk(r), [row for row, _ in rows]), [told for _, told in rows])

    def test_links_that_may_be_missing(self):
        desk = Desk(1)
        for row in ("0 0 a b", "0 1 a b", "0 2 c d", "0 3 c d", "1 0 b c", "2 0 a d"):
            self.assertEqual(desk.answer(f"link {row}"), "new")
        self.assertEqual(answers(desk, ["strike 0 0 a b", "strike 0 1 a b", "surely 2 0 a d"]), ["new", "new", "open 1"])
        self.assertEqual(answers(desk, ["strike 0 2 c d", "strike 0 3 c d", "surely 2 0 a d"]), ["new", "new", "open 2"])
        self.assertEqual(answers(desk, ["surely 1 0 b c", "sure", "between a b", "between a d"]),
                         ["in", "unsure", "2 -", "5 6"])

    def test_places(self):
        desk = Desk(1)
        answers(desk, ["link 1 0 a b", "strike 1 0 x y", "strike 1 0 a b"])
        for word in ("between", "wide"):
            for names in ("a x", "x a", "x y", "a a", "b b", "x x", "a abcdef"):
                self.assertEqual(desk.answer(f"{word} {names}"), "no noplace", names)
            for names in ("a", "a b c", "", "a B", "A b", "a b1", "1 b", "a abcdefg", "abcdefg a", "a  b", "a b ", " a b"):
                self.assertEqual(desk.answer(f"{word} {names}"), "what", names)
        self.assertEqual(answers(desk, ["between a b", "wide b a"]), ["- -", "1"])

    def test_numbers(self):
        for r in range(6):
            for number in (0, 1, 5, 6, 10, 99, 10 ** 39, 10 ** 40 - 1):
                self.assertEqual(Desk(r).answer(f"lessen {number}"), "0" if number <= r else "no toomany")
            for word in (10 ** 40, 10 ** 50, "9" * 5000, "00", "01", "-1", "+1", "1.0", "a", "", "1 1", " 1", "1 ", "0x1", "1_0"):
                self.assertEqual(Desk(r).answer(f"lessen {word}"), "what", word)
        for word in ("link", "strike", "surely", "why"):
            for text in ("1000001 0 a b", "1 1000001 a b", f"{10 ** 40} 0 a b", "9" * 5000 + " 0 a b", "01 0 a b", "1 00 a b",
                         "-1 0 a b", "1 0 b a", "1 0 a a", "1 0 a", "1 0 a b c", "", "a b 1 0", "1 0 a abcdefg", "1 0 A b"):
                self.assertEqual(Desk(1).answer(f"{word} {text}"), "what", text)
            self.assertNotEqual(Desk(1).answer(f"{word} 1000000 0 abcdef b"), "what")

    def test_rows_of_no_form(self):
        desk = Desk(1)
        for word in WORDS:
            for row in (f"{word} ", f" {word}", f"{word}s", word.upper(), f"{word} x", f"{word}\n", f"{word}  ", word[1:],
                        f"{word} 1 0 a b ", f"{word}  1 0 a b", f"{word} 1  0 a b", f"{word} 1 0 a b\n", f"{word}, 1 0 a b",
                        f"{word} {word}", f"{word}-", f"{word} 1 2 3", f"{word} 1 0 a b 1 0 a b"):
                self.assertEqual(desk.answer(row), "what", row)
        for row in ("", " ", "  ", "\n", "what", "no", "help", "1 0 a b", "hear 1 0 a b", "take", "page", "links", "gone"):
            self.assertEqual(desk.answer(row), "what", row)
        self.assertEqual(answers(desk, ["keeps", "net", "strike 1 0 a b"]), ["0", "-", "new"])

    def test_of_anything(self):
        desk = Desk(1)
        desk.answer("link 1 0 a b")
        for thing in [*things(), ["keeps"], ("keeps",), {"keeps": 1}]:
            self.assertEqual(unchanged(self, desk.answer, thing), "what")
        self.assertEqual(desk.answer("keeps"), "1")

    def test_how_many_strikes(self):
        for thing in [*things(), 6, -1, "1", True]:
            right = type(thing) is int and 0 <= thing <= 5
            self.assertEqual(refusal(Desk, thing), None if right else ("TooMany", {"most": 5}))

    def test_what_is_refused_changes_nothing(self):
        desk = Desk(1)
        answers(desk, ["link 1 0 a b", "link 2 0 a b", "strike 2 0 a b"])
        before = answers(desk, ["keeps", "net", "wide a b", "sure"])
        answers(desk, ["lessen 2", "between a x", "wide a a", "surely 2 0 a b", "why 2 0 a", "lessen", "link 3 0 b a"])
        self.assertEqual(answers(desk, ["keeps", "net", "wide a b", "sure"]), before)

    def test_desks_are_by_themselves(self):
        one, other = Desk(1), Desk(1)
        one.answer("link 1 0 a b")
        self.assertEqual((one.answer("keeps"), other.answer("keeps")), ("1", "0"))

    def test_arguments_by_their_names(self):
        self.assertEqual(Desk(r=2).answer(row="keeps"), "0")


class SlowAnswers(unittest.TestCase):
    def rows(self, dice, names, many):
        """Rows of all forms, behind some links between the same two places, which are struck."""
        for mark in range(many):
            yield f"link 0 {mark} a b"
            yield f"strike 0 {mark} a b"
        for _ in range(22):
            link = text_of(random_set(dice, names, 1)[0][0])
            word = dice.choice(["link"] * 8 + WORDS + ["strike"] * 2)
            if word in ("link", "strike", "surely", "why"):
                yield f"{word} {link}"
            elif word in ("between", "wide"):
                yield f"{word} {dice.choice(names)} {dice.choice(names)}"
            elif word == "lessen":
                yield f"{word} {dice.randint(0, 3)}"
            else:
                yield word

    def test_by_slow_reckoning(self):
        found = {}

        def ask(row):
            told = desk.answer(row)
            self.assertEqual(told, slow.answer(row), row)
            found.setdefault(row.split()[0], set()).add(re.sub(r"\d+", "N", told))
        for seed in range(120):
            dice = random.Random(seed)
            r = seed % 4
            desk, slow = Desk(r), SlowDesk(r)
            for row in self.rows(dice, "abcd"[:2 + seed % 3], dice.choice((0, r + 1))):
                ask(row)
            kept = slow.house.links()
            for link in kept:
                ask(f"surely {text_of(link)}")
                ask(f"why {text_of(link)}")
            for one, other in pairs_of(kept):
                ask(f"between {other} {one}")
                ask(f"wide {one} {other}")
        self.assertEqual(found["link"], {"known", "left", "new", "new, gone N"})
        self.assertEqual(found["surely"], {"in", "open N", "no nolink"})
        self.assertEqual(found["why"], {"left", "kept N"})
        self.assertEqual(found["sure"], {"sure", "unsure"})
        self.assertLessEqual({"N N", "N -", "no noplace"}, found["between"])
        self.assertEqual(found["lessen"], {"N", "no toomany"})

    def test_one_sign_otherwise(self):
        begin = ["link 1 0 a b", "link 2 0 a b", "link 3 1 b c", "strike 1 0 a b"]
        for row in ("link 1 0 a b", "strike 2 0 a b", "net", "sure", "surely 2 0 a b", "between a b", "why 1 0 a b",
                    "wide b c", "keeps", "lessen 1"):
            for near in near_texts(row, "\n 01abcs-"):
                desk, slow = Desk(1), SlowDesk(1)
                for ahead in begin:
                    self.assertEqual(desk.answer(ahead), slow.answer(ahead))
                self.assertEqual(desk.answer(near), slow.answer(near), near)
