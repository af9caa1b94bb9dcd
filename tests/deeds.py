"""Rows of deeds of several houses, and slow plain reckonings of what these houses then keep and tell."""

import random
from itertools import product

from fewkept.houses import House
from tests.helper import random_set, same
from tests.judges import is_tuple, right_side, right_ways
from tests.slow import crossers, slow_kept, spots, strict


class Slow:
    """What ever came to a house, by hand or by page, and what was struck: all of it, nothing is forgotten."""

    def __init__(self, r):
        self.r, self.came, self.gone = r, set(), set()

    def links(self):
        return slow_kept(self.came, self.r)

    def struck(self):
        return sorted(self.gone)

    def take(self, other):
        self.came |= other.came
        self.gone |= other.gone


def deed_rows(dice, names, many, houses, most):
    """Deeds of some houses: (word, the house's number, what it is handed), of take the number of another house."""
    for _ in range(many):
        word = dice.choice(["hear"] * 8 + ["strike"] * 2 + ["take"] * 2 + ["lessen"])
        who = dice.randrange(houses)
        if word in ("hear", "strike"):
            yield word, who, random_set(dice, names, 1)[0][0]
        else:
            yield word, who, dice.randrange(houses if word == "take" else most + 1)


def all_deeds(kind=House):
    """Rows of deeds, carried out one by one: (house, its page ahead, its slow one, word, thing, what it told)."""
    dice = random.Random(616)
    sizes = [*product(("ab", "abc", "abcd", "abcde"), (0, 1, 1, 2, 3)), ("ab", 4), ("ab", 5), ("abc", 4), ("abc", 5)]
    for (names, most), turn in product(sizes, range(6)):
        strikes = [most, most, max(0, most - 1)]
        houses, slow = [kind(r) for r in strikes], [Slow(r) for r in strikes]
        for word, who, thing in deed_rows(dice, names, 20 + 5 * turn, 3, most):
            house, own = houses[who], slow[who]
            ahead = house.page()
            if word == "take":
                if houses[thing].many() < house.many():
                    continue
                thing, other = houses[thing].page(), slow[thing]
                own.take(other)
            elif word == "lessen":
                if thing > own.r or dice.random() < 0.5:
                    continue
                own.r = thing
            else:
                (own.came if word == "hear" else own.gone).add(thing)
            yield house, ahead, own, word, thing, getattr(house, word)(thing)


def right_gone(now, r, gone, lost):
    """Whether anything tells of just these links that they are kept no more."""
    if type(gone) is not tuple or not all(is_tuple(pair, 2) for pair in gone):
        return False
    if not same([link for link, _ in gone], lost):
        return False
    return all(right_ways([row for row in now if row < link], *link[2:], ways, r + 1) for link, ways in gone)


def right_stands(now, r, stands, stood):
    """Whether anything tells of just these links that they are kept."""
    if type(stands) is not tuple or not all(is_tuple(pair, 2) for pair in stands):
        return False
    if not same([link for link, _ in stands], stood):
        return False
    return all(right_side(spots(now), *link[2:], side)
               and len(crossers([row for row in now if row < link], side)) <= r for link, side in stands)


def right_hear(kept, r, link, thing):
    """Whether anything is what a house tells that keeps these and hears this link."""
    now = slow_kept([*kept, link], r)
    if link in kept:
        return strict(thing) == "('known',)"
    if link not in now:
        return is_tuple(thing, 2) and strict(thing[0]) == "'left'" and right_ways(
            [row for row in now if row < link], *link[2:], thing[1], r + 1)
    if not is_tuple(thing, 3) or strict(thing[0]) != "'new'":
        return False
    if not right_gone(now, r, thing[1], [row for row in kept if row not in now]):
        return False
    return right_stands(now, r, thing[2], [row for row in now if row >= link])


def right_lessen(kept, r, thing):
    """Whether anything is what a house tells that kept these and is to keep for r strikes from now on."""
    now = slow_kept(kept, r)
    if not is_tuple(thing, 2) or not right_gone(now, r, thing[0], [row for row in kept if row not in now]):
        return False
    return right_stands(now, r, thing[1], now)


def right_take(kept, r, page, thing):
    """Whether anything is what a house tells that keeps these and takes this page."""
    _, links, _ = page
    if not is_tuple(thing, len(links)):
        return False
    for link, answer in zip(links, thing):
        if not right_hear(kept, r, link, answer):
            return False
        kept = slow_kept([*kept, link], r)
    return True


def right_answer(ahead, own, word, thing, told):
    """Whether a house of which this was the page ahead told rightly of a deed."""
    _, links, struck = ahead
    kept = list(links)
    if word == "hear":
        return right_hear(kept, own.r, thing, told)
    if word == "lessen":
        return right_lessen(kept, own.r, told)
    if word == "take":
        return right_take(kept, own.r, thing, told)
    return same(told, "known" if thing in struck else "new")
