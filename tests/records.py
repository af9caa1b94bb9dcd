"""A slow plain judge of records, by the document's words; records of many kinds; and other rows that show the same."""

import random
import re
from itertools import combinations, product

from fewkept.judging import Noted
from tests.deeds import right_hear, right_lessen, right_take
from tests.helper import all_ways, random_set, same, slow_net, slow_paper
from tests.judges import is_tuple, right_link, right_side, right_sure
from tests.slow import all_paths, bundles, crossers, pairs_of, slow_kept, spots, strict, subsets

LINK = re.compile(r"\((0|[1-9]\d*), (0|[1-9]\d*), '([a-z]{1,6})', '([a-z]{1,6})'\)")


def right_place_of(thing):
    """Whether anything is a link."""
    found = LINK.fullmatch(strict(thing)) if is_tuple(thing, 4) else None
    return bool(found) and max(thing[:2]) <= 10 ** 6 and thing[2] < thing[3]


def right_links(thing):
    """Whether anything is a rising tuple of links."""
    return type(thing) is tuple and all(map(right_place_of, thing)) and list(thing) == sorted(set(thing))


def right_page(thing, least):
    """Whether anything is a page of a house for at least so many strikes."""
    if not is_tuple(thing, 3) or type(thing[0]) is not int or not least <= thing[0] <= 5:
        return False
    return right_links(thing[1]) and right_links(thing[2]) and slow_kept(thing[1], thing[0]) == list(thing[1])


def right_page_sides(page, sides):
    """Whether anything shows of a page's links that they are kept."""
    r, links, _ = page
    if not is_tuple(sides, len(links)) or not all(is_tuple(pair, 2) for pair in sides):
        return False
    if not same([link for link, _ in sides], list(links)):
        return False
    return all(right_side(spots(links), *link[2:], side)
               and len(crossers([row for row in links if row < link], side)) <= r for link, side in sides)


def right_sure_row(kept, r, gone, answer):
    """Whether anything is what a house notes of what it tells to be sure or not."""
    if not is_tuple(answer, 2):
        return right_sure(kept, r, gone, answer)
    if type(answer[1]) is not tuple or not all(is_tuple(pair, 2) for pair in answer[1]):
        return False
    if not same([pair for pair, _ in answer[1]], pairs_of(kept)):
        return False
    return right_sure(kept, r, gone, (answer[0], dict(answer[1])))


def right_row(r, kept, gone, row):
    """What a house stands like behind a row, (r, links, struck); None of a row that isn't so."""
    word = strict(row[0])[1:-1] if type(row) is tuple and row and type(row[0]) is str else None
    right, told = False, (r, kept, gone)
    if word == "heard" and len(row) == 3 and right_place_of(row[1]):
        right, told = right_hear(kept, r, *row[1:]), (r, slow_kept([*kept, row[1]], r), gone)
    elif word == "struck" and len(row) == 3 and right_place_of(row[1]):
        right, told = same(row[2], "known" if row[1] in gone else "new"), (r, kept, sorted({*gone, row[1]}))
    elif word == "took" and len(row) == 4 and right_page(row[1], r) and right_page_sides(*row[1:3]):
        right, told = right_take(kept, r, row[1], row[3]), (r, slow_kept([*kept, *row[1][1]], r),
                                                            sorted({*gone, *row[1][2]}))
    elif word == "lessened" and len(row) == 3 and type(row[1]) is int and 0 <= row[1] <= r:
        right, told = right_lessen(kept, *row[1:]), (row[1], slow_kept(kept, row[1]), gone)
    elif word == "net" and len(row) == 3:
        right = same(row[1:], (tuple(slow_net(kept, gone)), tuple(slow_paper(kept, gone))))
    elif word == "sure" and len(row) == 2:
        right = right_sure_row(kept, r, gone, row[1])
    elif word == "surely" and len(row) == 3 and right_place_of(row[1]) and row[1] in slow_net(kept, gone):
        right = right_link(kept, r, row[1], gone, row[2])
    return told if right else None


def right_judge(record):
    """The number of the first row that isn't so; None where there is none, -1 of what is no record."""
    if not is_tuple(record, 2) or type(record[0]) is not int or not 0 <= record[0] <= 5 or type(record[1]) is not tuple:
        return -1
    stand = record[0], [], []
    for at, row in enumerate(record[1]):
        stand = right_row(*stand, row)
        if stand is None:
            return at
    return None


def noted_house(dice, names, r, many):
    """A house that noted so many deeds and tellings of all kinds."""
    house = Noted(r)
    words = ["hear"] * 8 + ["strike", "strike", "strike", "take", "lessen", "net", "sure", "sure", "surely", "surely"]
    for word in dice.choices(words, k=many):
        link = random_set(dice, names, 1)[0][0]
        if word == "hear":
            house.hear(link)
        elif word == "strike":
            house.strike(dice.choice([link, *house.links() * 2]))
        elif word == "take":
            links, struck = random_set(dice, names, dice.randint(0, 5))
            most = dice.randint(house.many(), 5)
            house.take((most, tuple(slow_kept(links, most)), tuple(sorted(set(struck)))))
        elif word == "lessen":
            house.lessen(max(0, house.many() - dice.randint(0, 1)))
        elif word == "surely":
            for net_link in slow_net(house.links(), house.struck())[-1:]:
                house.surely(net_link)
        else:
            house.net() if word == "net" else house.sure()
    return house


def ring_house():
    """A house that isn't sure: two alike pairs of places, all links between each of them struck."""
    house = Noted(1)
    twice = [(0, 0, "a", "b"), (0, 1, "a", "b"), (0, 2, "c", "d"), (0, 3, "c", "d")]
    for link in [*twice, (1, 0, "b", "c"), (2, 0, "a", "d")]:
        house.hear(link)
    house.strike(twice[0])
    house.strike(twice[1])
    house.sure()
    house.surely((2, 0, "a", "d"))
    house.strike(twice[3])
    house.strike(twice[2])
    house.surely((2, 0, "a", "d"))
    house.surely((1, 0, "b", "c"))
    house.net()
    return house


def some_houses():
    """Houses with records of few places and of all kinds of rows."""
    dice = random.Random(99)
    yield ring_house()
    for names, r, many in product(("ab", "abc", "abcd"), (0, 1, 1, 2, 3), (3, 8, 15, 24)):
        yield noted_house(dice, names, r, many)


def other_pairs(links, pairs):
    """Tuples of pairs with another side, or other ways, of one of their links: right ones and wrong ones."""
    for at, (link, _) in enumerate(pairs):
        ways = [some for many in (1, 2, 3) for some in bundles(links, *link[2:], many)]
        for shown in [*subsets(spots(links)), *ways]:
            yield (*pairs[:at], (link, shown), *pairs[at + 1:])


def other_hears(links, link, answer):
    """What else might be told of a link that was heard."""
    word, *shown = answer
    if word == "left":
        for many in (1, 2, 3, 4):
            yield from (("left", ways) for ways in bundles(links, *link[2:], many))
    for at, pairs in enumerate(shown if word == "new" else []):
        yield from (("new", *shown[:at], other, *shown[at + 1:]) for other in other_pairs(links, pairs))


def other_sures(links, answer):
    """What else might be told of what is sure, and of what isn't."""
    sides = list(subsets(spots(links)))
    if answer[0] == "unsure":
        for one, other in pairs_of(links):
            for many in (1, 2, 3, 4):
                for thing in product(range(len(links) + 1), bundles(links, one, other, many), sides):
                    yield ("unsure", thing[0], one, other, *thing[1:])
    else:
        for at, (pair, _) in enumerate(answer[1]):
            for entry in product((None, *range(len(links) + 1)), [None, *all_ways(links, *pair)], sides):
                yield ("sure", (*answer[1][:at], (pair, entry), *answer[1][at + 1:]))


def other_rows(links, r, row):
    """Rows of the same deed that tell otherwise: with other ways, sides, papers and paths of these links."""
    word, *rest, answer = row
    if word == "heard":
        yield from ((word, *rest, other) for other in other_hears(links, *rest, answer))
    elif word == "took":
        page, sides = rest
        yield from ((word, page, other, answer) for other in other_pairs(page[1], sides))
        for at, (link, told) in enumerate(zip(page[1], answer)):
            for other in other_hears([*links, *page[1]], link, told):
                yield (word, page, sides, (*answer[:at], other, *answer[at + 1:]))
    elif word == "lessened":
        yield from ((word, *rest, (other, answer[1])) for other in other_pairs(links, answer[0]))
        yield from ((word, *rest, (answer[0], other)) for other in other_pairs(links, answer[1]))
    elif word == "sure":
        yield from ((word, other) for other in other_sures(links, answer))
    elif word == "surely":
        sides = list(subsets(spots(links)))
        paths = all_paths([row for row in links if row < rest[0]], r, *rest[0][2:])
        parts = [some for many in (0, 1, 2) for some in combinations(sides, many)]
        some = [("open", path) for path in paths] + [("in", part) for part in parts]
        yield from ((word, *rest, (kind, side, shown)) for kind, shown in some for side in sides)
