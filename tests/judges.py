"""Slow plain judges of what is told of anything, by the document's words: all right answers gone through, or nearly."""

from itertools import combinations

from tests.helper import all_ways
from tests.slow import all_sides, crossers, pairs_of, spots, strict, subsets


def is_tuple(thing, many):
    return type(thing) is tuple and len(thing) == many


def right_ways(links, one, other, thing, many=None):
    """Whether anything is a rising tuple of one or more ways, of just so many where this is told."""
    if type(thing) is not tuple or not thing:
        return False
    known = {strict(way) for way in all_ways(links, one, other)}
    if any(strict(way) not in known for way in thing) or list(thing) != sorted(set(thing)):
        return False
    if any({*way} & {*another} for way, another in combinations(thing, 2)):
        return False
    return many is None or len(thing) == many


def right_side(names, one, other, thing):
    """Whether anything is a side of two places, of these places."""
    return strict(thing) in {strict(side) for side in all_sides(names, one, other)}


def right_kept(links, r, told, paper):
    """Whether told and paper show what is kept."""
    rows = sorted(set(links))
    if type(told) not in (list, tuple) or strict(list(told)) not in {strict(list(part)) for part in subsets(rows)}:
        return False
    if type(paper) is not dict or sorted(map(strict, paper)) != sorted(map(strict, rows)):
        return False
    for link in rows:
        lesser = [row for row in told if row < link]
        if not is_tuple(paper[link], 2):
            return False
        word, shown = paper[link]
        if link in told:
            right = word == "kept" and right_side(spots(rows), *link[2:], shown) and len(crossers(lesser, shown)) <= r
        else:
            right = word == "left" and right_ways(lesser, *link[2:], shown, r + 1)
        if not right:
            return False
    return True


def right_splits(rows, r, thing):
    """Whether anything is a tree of splits of these kept ones."""
    if not rows:
        return strict(thing) == "()"
    names = spots(rows)
    if not is_tuple(thing, 3) or strict(thing[0]) not in {strict(part) for part in subsets(names)}:
        return False
    if thing[0] in ((), tuple(names)) or len(crossers(rows, thing[0])) > r + 1:
        return False
    within = [link for link in rows if {*link[2:]} <= {*thing[0]}]
    beyond = [link for link in rows if not {*link[2:]} & {*thing[0]}]
    return right_splits(within, r, thing[1]) and right_splits(beyond, r, thing[2])


def right_sure(rows, r, struck, thing):
    """Whether anything shows that each past's net is that of these kept ones, or that one's isn't."""
    if is_tuple(thing, 2) and strict(thing[0]) == "'sure'":
        paper = thing[1]
        if type(paper) is not dict or sorted(map(strict, paper)) != sorted(map(strict, pairs_of(rows))):
            return False
        return all(right_sure_pair(rows, r, struck, *pair, paper[pair]) for pair in pairs_of(rows))
    if not is_tuple(thing, 6) or strict(thing[0]) != "'unsure'":
        return False
    _, gap, one, other, ways, side = thing
    if type(gap) is not int or gap not in range(len(rows) + 1):
        return False
    if strict((one, other)) not in {strict(pair) for pair in pairs_of(rows)}:
        return False
    if not right_ways(rows[:gap], one, other, ways, r + 1) or not right_side(spots(rows), one, other, side):
        return False
    return {*crossers(rows[:gap], side)} <= {*struck}


def right_sure_pair(rows, r, struck, one, other, thing):
    if not is_tuple(thing, 3) or not right_side(spots(rows), one, other, thing[2]):
        return False
    gap, way, side = thing
    if gap is None:
        return way is None and len(crossers(rows, side)) <= r
    if type(gap) is not int or gap not in range(1, len(rows) + 1) or len(crossers(rows[:gap - 1], side)) > r:
        return False
    usable = [row for row in rows[:gap] if row not in struck]
    return strict(way) in {strict(known) for known in all_ways(usable, one, other)}


def right_link(rows, r, link, struck, thing):
    """Whether anything shows that each past's net has this net link, or that one's hasn't."""
    lesser, names = [row for row in rows if row < link], spots(rows)
    usable = [row for row in lesser if row not in struck]
    if not is_tuple(thing, 3) or not right_side(names, *link[2:], thing[1]) or crossers(usable, thing[1]):
        return False
    word, side, shown = thing
    if type(shown) is not tuple:
        return False
    if strict(word) == "'in'":
        parts = {strict(part) for part in subsets(names)}
        if any(strict(part) not in parts for part in shown) or list(shown) != sorted(set(shown)):
            return False
        if any(len(crossers(lesser, part)) > r for part in shown):
            return False
        return all(any((here in part) != (there in part) for part in shown)
                   for here in side for there in names if there not in side)
    return strict(word) == "'open'" and right_path(lesser, usable, r, *link[2:], shown)


def right_path(lesser, usable, r, one, other, path):
    passed = [one]
    for step in path:
        here = passed[-1]
        if strict(step) in {strict(row) for row in usable} and here in step[2:]:
            there = step[2] if here == step[3] else step[3]
        elif is_tuple(step, 3) and strict(step[0]) == strict(here) and step[1] in spots(lesser):
            there = step[1]
            if there == here or not right_ways(lesser, here, there, step[2], r + 1):
                return False
        else:
            return False
        if there in passed:
            return False
        passed.append(there)
    return passed[-1] == other
