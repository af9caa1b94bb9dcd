"""The net of links, the paper that shows it, and ways (stage 2 of the document)."""

from fewkept.errors import NoPlace
from fewkept.links import ahead_of, is_link, places, rising


def net(links, *, struck=()):
    """The net of these links, some of them struck: a rising list."""
    return taken(_unstruck(links, struck))


def net_paper(links, *, struck=()):
    """From each unstruck link that the net lacks to the way of lesser net links that stands for it."""
    free = _unstruck(links, struck)
    chosen = taken(free)
    return {link: least_way(chosen, link[2], link[3]) for link in free if link not in chosen}


def shows_net(links, told, paper, *, struck=()):
    """Whether told and paper, whatever they are, show that told is the net."""
    free = _unstruck(links, struck)
    if not is_part(told, free):
        return False
    chosen = list(told)
    if taken(chosen) != chosen:
        return False
    return _is_paper(paper, chosen, [link for link in free if link not in chosen])


def joined(links, one, other):
    """A way of the fewest links from one place to another, the least of these; None where there is none."""
    rows = rising(links)
    check_places(rows, one, other)
    return least_way(rows, one, other)


def check_places(rows, one, other):
    """Refuse whatever is not two different places of these links."""
    known = places(rows)
    if one not in known:
        raise NoPlace(one)
    if other not in known or other == one:
        raise NoPlace(other)


def taken(rows):
    """Those of a row that are taken as it is gone through: links, or pairs of places that stand for links."""
    # Places bear one name for as long as what is taken joins them; links and pairs alike end with their two places.
    names = {place: place for row in rows for place in row[-2:]}
    chosen = []
    for row in rows:
        old, new = names[row[-2]], names[row[-1]]
        if old != new:
            chosen.append(row)
            names = {place: new if name == old else name for place, name in names.items()}
    return chosen


def is_part(thing, rows):
    """Whether anything is a rising list of some of these rising links, each once."""
    if not isinstance(thing, (list, tuple)) or not all([is_link(part) for part in thing]):
        return False
    return list(thing) == [link for link in rows if link in thing]


def far_end(link, here):
    """The place that this link joins with here; None where it doesn't join here."""
    if here == link[2]:
        return link[3]
    if here == link[3]:
        return link[2]
    return None


def is_way(rows, one, other, thing):
    """Whether anything is a way from one place to another one by these links."""
    # A truth equals a number: a step is looked at itself before it is sought among the links.
    if not isinstance(thing, tuple) or not all([is_link(step) and step in rows for step in thing]):
        return False
    here = one
    passed = [one]
    for step in thing:
        here = far_end(step, here)
        if here is None or here in passed:
            return False
        passed.append(here)
    return here == other


def least_way(rows, one, other):
    """The least of the ways of the fewest links between two places, by rising links; None where there is none."""
    steps = _steps_to(rows, other)
    if one not in steps:
        return None
    way = []
    here = one
    while here != other:
        nearer = [link for link in rows if steps.get(far_end(link, here)) == steps[here] - 1]
        way.append(nearer[0])
        here = far_end(nearer[0], here)
    return tuple(way)


def _steps_to(rows, goal):
    # How few links lead to the goal, from each place from which some do.
    steps = {goal: 0}
    edge = [goal]
    while edge:
        ahead = []
        for here in edge:
            for link in rows:
                there = far_end(link, here)
                if there is not None and there not in steps:
                    steps[there] = steps[here] + 1
                    ahead.append(there)
        edge = ahead
    return steps


def _unstruck(links, struck):
    rows = rising(links)
    gone = rising(struck)
    return [link for link in rows if link not in gone]


def _is_paper(thing, chosen, others):
    # Whether anything leads from just these other links to ways by lesser chosen ones.
    if not isinstance(thing, dict) or not all([is_link(key) for key in thing]):
        return False
    if sorted(thing) != others:
        return False
    return all([is_way(ahead_of(chosen, link), link[2], link[3], thing[link]) for link in others])
