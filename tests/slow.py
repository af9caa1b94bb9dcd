"""Slow plain reckonings of ways, sides, what is kept, and pasts: by the document's words, all gone through."""

import random
from functools import lru_cache
from itertools import chain, combinations, product

from tests.helper import all_ways, random_set, slow_net


def spots(links):
    """All places that these links join."""
    return sorted({name for link in links for name in link[2:]})


def pairs_of(links):
    return list(combinations(spots(links), 2))


def subsets(rows):
    return chain.from_iterable(combinations(rows, many) for many in range(len(rows) + 1))


def all_sides(names, one, other):
    """All sides of two places, of these places and the first of the two."""
    for part in subsets(sorted(set(names) | {one})):
        if one in part and other not in part:
            yield part


def crossers(links, side):
    return [link for link in sorted(set(links)) if len({*link[2:]} & {*side}) == 1]


def least_cross(links, one, other):
    """How many links cross a side that as few links cross as any."""
    return min(len(crossers(links, side)) for side in all_sides(spots(links), one, other) if other not in side)


def bundles(links, one, other, many):
    """All rising tuples of so many ways of which no two have a common link."""
    def grow(chosen, used, rest):
        if len(chosen) == many:
            yield tuple(chosen)
            return
        for at, way in enumerate(rest):
            if not used & {*way}:
                yield from grow([*chosen, way], used | {*way}, rest[at + 1:])
    return grow([], set(), sorted(all_ways(links, one, other)))


@lru_cache(None)
def _wide(rows, one, other):
    many = 0
    while next(bundles(rows, one, other, many + 1), None):
        many += 1
    return many


def slow_wide(links, one, other):
    """The most ways without a common link: as many as can be put beside each other."""
    return _wide(tuple(sorted(set(links))), one, other)


def slow_kept(links, r):
    """What is kept, by the document's words."""
    stays = []
    for link in sorted(set(links)):
        if slow_wide(stays, *link[2:]) <= r:
            stays.append(link)
    return stays


def slow_strikes(links, link, most):
    """How few links are struck where the net has this one; None where more than most are."""
    rows = sorted(set(links))
    for many in range(most + 1):
        if any(link in slow_net(rows, gone) for gone in combinations(rows, many)):
            return many
    return None


def alike_pairs(links, r, gap):
    """The pairs of places that are alike ahead of a gap of these rising kept ones."""
    ahead = links[:gap]
    return [pair for pair in pairs_of(ahead) if slow_wide(ahead, *pair) > r]


def all_pasts(links, r, many):
    """All pasts of these rising kept ones, with at most so many others."""
    alike = [alike_pairs(links, r, gap) for gap in range(len(links) + 1)]
    rows = level = [tuple(links)]
    for _ in range(many):
        level = sorted({(*row[:at], pair, *row[at:]) for row in level for at in range(len(row) + 1)
                        for pair in alike[sum(len(part) == 4 for part in row[:at])]}, key=repr)
        rows = rows + level
    return [list(row) for row in rows]


def slow_row(links, r, thing):
    """Whether anything is a past, gone through by the document's words."""
    if type(thing) not in (list, tuple):
        return False
    rows = [part for part in thing if strict(part) in [strict(link) for link in links]]
    if [strict(part) for part in rows] != [strict(link) for link in links]:
        return False
    ahead = []
    for part in thing:
        if part in rows:
            ahead.append(part)
        elif type(part) is not tuple or len(part) != 2 or part not in pairs_of(ahead):
            return False
        elif slow_wide(ahead, *part) <= r:
            return False
    return True


def row_net(row, struck):
    """The net of a past, in its order; pairs that are alike count by where they stand."""
    taken, rows = [], [(at, 0, *part[-2:]) for at, part in enumerate(row)]
    for at, part in enumerate(row):
        if part not in struck and not list(all_ways([rows[spot] for spot in taken], *part[-2:])):
            taken.append(at)
    return [row[at] for at in taken]


def all_paths(lesser, r, one, other, passed=()):
    """Paths of lesser links, struck or not, and of steps with r to r + 2 ways."""
    if one == other:
        yield ()
        return
    for there in spots(lesser):
        if there not in (*passed, one):
            steps = [link for link in lesser if {*link[2:]} == {one, there}]
            for many in range(max(1, r), r + 3):
                steps += [(one, there, ways) for ways in bundles(lesser, one, there, many)]
            for step in steps:
                for rest in all_paths(lesser, r, there, other, (*passed, one)):
                    yield (step, *rest)


def joins(links, pairs, one, other):
    """Whether these links and pairs together lead from one place to another one."""
    rows = [*links, *[(0, at, *pair) for at, pair in enumerate(pairs)]]
    return one == other or next(all_ways(rows, one, other), None) is not None


def fewest_alike(links, r, link, struck):
    """How few forgotten links, ahead of a net link, keep it out of the net; None where none do."""
    gap = links.index(link)
    usable = [row for row in links[:gap] if row not in struck]
    alike = alike_pairs(links, r, gap)
    if not joins(usable, alike, *link[2:]):
        return None
    return next(many for many in range(len(alike) + 1)
                if any(joins(usable, pairs, *link[2:]) for pairs in combinations(alike, many)))


def gaps_between(links, r, one, other, struck):
    """The least gaps ahead of which links with all alike pairs, and unstruck links alone, join two places."""
    def least(pairs_at):
        for gap in range(len(links) + 1):
            usable = [row for row in links[:gap] if row not in struck]
            if joins(usable, pairs_at(gap), one, other):
                return gap
        return None
    return least(lambda gap: alike_pairs(links, r, gap)), least(lambda gap: [])


def strict(thing):
    """A text of a thing by which truths are no numbers, and tuples no lists."""
    return repr(thing)


def dense_sets():
    """Sets of few places and many links: (links, struck) pairs, the struck ones told or not."""
    dice = random.Random(77)
    for many, names in [(6, "abc"), (8, "abc"), (8, "abcd"), (9, "abcd"), (9, "abcde"), (10, "abcde")] * 8:
        yield random_set(dice, names, many)


def open_sets():
    """Kept ones as kept_sets tells them, in which lesser links between the same two places are mostly struck."""
    dice = random.Random(12)
    for names, many, r in product(("abc", "abcd", "abcdef"), (3, 5, 6), (1, 1, 1, 2)):
        for _ in range(3):
            order = dice.sample(names, len(names))
            couples = [sorted(order[at:at + 2]) for at in range(0, len(names) - 1, 2)]
            early = [(0, at, *pair) for pair in couples for at in range(r + 1)]
            late = [(dice.randint(0, 3), at, *sorted(dice.sample(names, 2))) for at in range(many)]
            rows = slow_kept(early + late, r)
            yield rows, r, [link for link in rows if dice.random() < (0.9 if link in early else 0.15)]


def kept_sets():
    """Rising kept ones, how many strikes they are kept for, and struck ones, some of them others."""
    dice = random.Random(5)
    yield [], 0, []
    yield [], 5, [(1, 1, "a", "b")]
    for names, many, r in product(("ab", "abc", "abcd", "abcde"), (1, 3, 5, 7, 9), (0, 1, 2)):
        for _ in range(3):
            links, _ = random_set(dice, names, many)
            rows = slow_kept(links, r)
            share = dice.choice((0, 0.2, 0.4, 0.7, 1))
            struck = [link for link in rows if dice.random() < share]
            yield rows, r, struck + [(9, 9, "a", "b"), (0, 0, "x", "y")][:dice.randint(0, 2)]
    yield from open_sets()
