"""Ways without a common link, and sides that few links cross (stage 3 of the document)."""

from fewkept.errors import TooMany
from fewkept.links import is_number, places, rising
from fewkept.nets import check_places, far_end, is_way

MOST_WAYS = 9


def apart(links, one, other, many):
    """So many ways between two places, no two with a common link; else a side that as few links cross as any."""
    rows = rising(links)
    check_places(rows, one, other)
    if not is_number(many, MOST_WAYS) or many < 1:
        raise TooMany(MOST_WAYS)
    return parted(rows, one, other, many)


def wide(links, one, other):
    """The most ways between two places of which no two have a common link."""
    rows = rising(links)
    check_places(rows, one, other)
    # There are never more ways than links, so a side is told; as many links cross it as there are ways.
    _, side = parted(rows, one, other, len(rows) + 1)
    return len(crossed(rows, side))


def are_ways(links, one, other, thing):
    """Whether anything is a rising tuple of one or more ways between two places, no two with a common link."""
    rows = rising(links)
    check_places(rows, one, other)
    return is_bundle(rows, one, other, thing)


def crossing(links, side):
    """The rising list of the links of which just one place is in the side."""
    return crossed(rising(links), side)


def is_side(links, one, other, thing):
    """Whether anything is a side of two places of these links."""
    rows = rising(links)
    check_places(rows, one, other)
    return is_side_of(places(rows), one, other, thing)


def parted(rows, one, other, many):
    """As apart tells it, by rising links; the two places need not be places of these links."""
    ends = _ends(rows)
    used = {}
    for _ in range(many):
        steps = _reached(ends, used, one)
        if other not in steps:
            # What goes out of these places is used, and nothing that is used comes in: each way crosses just once.
            return "side", tuple(sorted(steps))
        _add_way(used, _way_to(steps, one, other), one)
    return "ways", _ways_of(used, one, other, many)


def crossed(rows, side):
    """Those of these links that cross the side."""
    return [link for link in rows if (link[2] in side) != (link[3] in side)]


def is_bundle(rows, one, other, thing):
    """As are_ways tells it, by rising links; the two places may be anything."""
    if not isinstance(thing, tuple) or not thing:
        return False
    if not all([is_way(rows, one, other, way) for way in thing]) or not is_rising(thing):
        return False
    steps = [link for way in thing for link in way]
    return len(set(steps)) == len(steps)


def is_side_of(names, one, other, thing):
    """Whether anything is a rising tuple of some of these places, with one among them, other not."""
    return are_some(names, thing) and one in thing and other not in thing


def are_some(names, thing):
    """Whether anything is a rising tuple of some of these places, or of none."""
    return isinstance(thing, tuple) and list(thing) == [name for name in names if name in thing]


def is_rising(row):
    """Whether each of a row's things, all of one kind, is greater than the one ahead."""
    return all([ahead < behind for ahead, behind in zip(row, row[1:])])


def _ends(rows):
    # From each place to the links that join it with another one, and that one.
    ends = {}
    for link in rows:
        ends.setdefault(link[2], []).append((link, link[3]))
        ends.setdefault(link[3], []).append((link, link[2]))
    return ends


def _reached(ends, used, one):
    # From each place that can be reached from one to the link that leads there. A used link leads no more to the place
    # to which used says that it leads, only back from there.
    steps = {one: None}
    edge = [one]
    while edge:
        ahead = []
        for here in edge:
            for link, there in ends.get(here, ()):
                if there not in steps and used.get(link) != there:
                    steps[there] = link
                    ahead.append(there)
        edge = ahead
    return steps


def _way_to(steps, one, other):
    way = []
    here = other
    while here != one:
        way.append(steps[here])
        here = far_end(steps[here], here)
    return tuple(way[::-1])


def _add_way(used, way, one):
    # One more way than before goes by the used links: where this one goes back by a link, none goes by that any more.
    here = one
    for link in way:
        if used.get(link) == here:
            del used[link]
            here = far_end(link, here)
        else:
            here = far_end(link, here)
            used[link] = here


def _ways_of(used, one, other, many):
    # Of each other place as many used links lead out as lead in: as long as a way is left to tell, one is found.
    ends, told, ways = {}, {}, []
    for link, there in used.items():
        ends.setdefault(far_end(link, there), []).append((link, there))
    for _ in range(many):
        way = _way_to(_reached(ends, told, one), one, other)
        ways.append(way)
        for link in way:
            told[link] = used[link]
    return tuple(sorted(ways))
