"""What may have been told and forgotten: of which nets one may be sure (stage 5 of the document)."""

from fewkept.errors import NoKept, NoLink
from fewkept.keeping import check_strikes, weighed
from fewkept.links import ahead_of, is_link, is_number, is_place, places, rising
from fewkept.nets import check_places, far_end, is_way, least_way, taken
from fewkept.ways import are_some, crossed, is_bundle, is_rising, is_side_of, parted


def sure(links, r, *, struck=()):
    """Whether each past's net is that of the kept ones: ("sure", paper), or ("unsure", ..) with a past that differs."""
    rows, free = _kept_ones(links, r, struck)
    chosen = taken(free)
    paper = {}
    for one, other in place_pairs(rows):
        way = least_way(chosen, one, other)
        gap = _gap_of(rows, way)
        # By these alone no unstruck way leads there: a forgotten link between the two would make another net.
        early = rows if gap is None else rows[:gap - 1]
        word, shown = parted(early, one, other, r + 1)
        if word == "ways":
            _, side = parted(_unstruck_of(early, free), one, other, 1)
            return "unsure", len(early), one, other, shown, side
        paper[(one, other)] = (gap, way, shown)
    return "sure", paper


def shows_sure(links, r, thing, *, struck=()):
    """Whether anything is such an answer."""
    rows, free = _kept_ones(links, r, struck)
    return is_sure_answer(rows, free, r, thing)


def link_sure(links, r, link, *, struck=()):
    """Whether each past's net has this link of the net: ("in", side, sides), or ("open", side, path)."""
    rows, free = _kept_ones(links, r, struck)
    _check_net(free, link)
    _, _, one, other = link
    lesser, usable = ahead_of(rows, link), ahead_of(free, link)
    names = places(rows)
    sides = _parting_sides(lesser, names, r)
    steps = _steps_from(usable, names, sides, one)
    if other not in steps:
        return "in", tuple(sorted(steps)), tuple(sorted(sides))
    _, side = parted(usable, one, other, 1)
    return "open", side, _path_to(lesser, r, steps, other)


def shows_link(links, r, link, thing, *, struck=()):
    """Whether anything is such an answer, however many steps a path has."""
    rows, free = _kept_ones(links, r, struck)
    _check_net(free, link)
    return is_link_answer(rows, free, r, link, thing)


def between(links, r, one, other, *, struck=()):
    """The least gaps ahead of which some past's net, and each past's net, joins two places; None where none does."""
    rows, free = _kept_ones(links, r, struck)
    check_places(rows, one, other)
    last = _gap_of(rows, least_way(taken(free), one, other))
    low, high = 0, len(rows) if last is None else last
    if not _may_join(rows, free, r, high, one, other):
        return None, last
    # What is joined ahead of a gap is joined ahead of each later one.
    while low < high:
        middle = (low + high) // 2
        if _may_join(rows, free, r, middle, one, other):
            high = middle
        else:
            low = middle + 1
    return low, last


def is_past(links, r, row):
    """Whether anything is a past of these kept ones."""
    rows, _ = _kept_ones(links, r, ())
    return _is_row(rows, r, row)


def past_net(links, r, row, *, struck=()):
    """The list of a past's net, in the row's order."""
    rows, free = _kept_ones(links, r, struck)
    if not _is_row(rows, r, row):
        raise NoKept(-1)
    return taken([thing for thing in row if _is_pair(thing) or thing in free])


def other_past(links, r, *, struck=()):
    """A past with one pair, of which the net is another one; None where the net is sure."""
    told = sure(links, r, struck=struck)
    if told[0] == "sure":
        return None
    _, gap, one, other, _, _ = told
    rows = rising(links)
    return [*rows[:gap], (one, other), *rows[gap:]]


def is_sure_answer(rows, free, r, thing):
    """As shows_sure tells it, by rising kept ones and those of them that aren't struck; nothing is sought."""
    if not isinstance(thing, tuple):
        return False
    if len(thing) == 2 and thing[0] == "sure":
        return _is_sure(rows, free, r, thing[1])
    return len(thing) == 6 and thing[0] == "unsure" and _is_unsure(rows, free, r, thing)


def is_link_answer(rows, free, r, link, thing):
    """As shows_link tells it, by rising kept ones and those of them that aren't struck; nothing is sought."""
    if not isinstance(thing, tuple) or len(thing) != 3:
        return False
    word, side, shown = thing
    lesser, usable = ahead_of(rows, link), ahead_of(free, link)
    names = places(rows)
    if not is_side_of(names, link[2], link[3], side) or crossed(usable, side):
        return False
    if word == "in":
        return _are_parting(lesser, names, r, side, shown)
    return word == "open" and _is_path(lesser, usable, r, link, shown)


def place_pairs(rows):
    """All pairs (one, other) of these links' places, one ahead of other, rising."""
    names = places(rows)
    return [(one, other) for one in names for other in names if one < other]


def _kept_ones(links, r, struck):
    # The rising kept ones, and those of them that aren't struck; what is refused comes in this order.
    rows = rising(links)
    check_strikes(r)
    gone = rising(struck)
    paper = weighed(rows, r)
    for at, link in enumerate(rows):
        if paper[link][0] == "left":
            raise NoKept(at)
    return rows, [link for link in rows if link not in gone]


def _check_net(free, link):
    if not is_link(link) or link not in taken(free):
        raise NoLink(0)


def _gap_of(rows, way):
    # The least gap of which all links of the way are ahead.
    return None if way is None else rows.index(max(way)) + 1


def _is_sure(rows, free, r, paper):
    pairs = place_pairs(rows)
    if not isinstance(paper, dict) or len(paper) != len(pairs) or not all([pair in paper for pair in pairs]):
        return False
    names = places(rows)
    return all([_is_sure_pair(rows, free, r, names, pair, paper[pair]) for pair in pairs])


def _is_sure_pair(rows, free, r, names, pair, thing):
    one, other = pair
    if not isinstance(thing, tuple) or len(thing) != 3:
        return False
    gap, way, side = thing
    if gap is None:
        return way is None and is_side_of(names, one, other, side) and len(crossed(rows, side)) <= r
    # No way leads by none: a gap with a way isn't 0.
    if not is_number(gap, len(rows)) or not is_way(_unstruck_of(rows[:gap], free), one, other, way):
        return False
    return is_side_of(names, one, other, side) and len(crossed(rows[:gap - 1], side)) <= r


def _is_unsure(rows, free, r, thing):
    _, gap, one, other, ways, side = thing
    names = places(rows)
    if not is_number(gap, len(rows)) or one not in names or other not in names or not one < other:
        return False
    if not is_bundle(rows[:gap], one, other, ways) or len(ways) != r + 1:
        return False
    return is_side_of(names, one, other, side) and not crossed(_unstruck_of(rows[:gap], free), side)


def _unstruck_of(rows, free):
    return [link for link in rows if link in free]


def _are_alike(sides, one, other):
    return all([(one in side) == (other in side) for side in sides])


def _parting_sides(rows, names, r):
    # Sides that at most r of these links cross: two places are alike just where none of these sides has just one.
    sides, firsts = [], []
    for place in names:
        alone = True
        for first in firsts:
            if _are_alike(sides, first, place):
                word, shown = parted(rows, first, place, r + 1)
                if word == "ways":
                    # Whatever parts the first one from another one parts all that are alike with it, too.
                    alone = False
                    break
                sides.append(shown)
        if alone:
            firsts.append(place)
    return sides


def _steps_from(usable, names, sides, one):
    # From each place to which usable links and alike places lead from one, by as few alike steps as can be, to the
    # step that led there: (the place ahead, the link or None).
    steps = {one: None}
    level = [one]
    while level:
        level = _on_by_likeness(names, sides, steps, _on_by_links(usable, steps, level))
    return steps


def _on_by_links(usable, steps, level):
    # The level with all places to which usable links lead from it.
    found = list(level)
    edge = level
    while edge:
        ahead = []
        for here in edge:
            for link in usable:
                there = far_end(link, here)
                if there is not None and there not in steps:
                    steps[there] = (here, link)
                    ahead.append(there)
        found.extend(ahead)
        edge = ahead
    return found


def _on_by_likeness(names, sides, steps, level):
    found = []
    for here in level:
        for there in names:
            if there not in steps and _are_alike(sides, here, there):
                steps[there] = (here, None)
                found.append(there)
    return found


def _path_to(lesser, r, steps, other):
    path = []
    there = other
    while steps[there] is not None:
        here, link = steps[there]
        if link is None:
            _, ways = parted(lesser, here, there, r + 1)
            path.append((here, there, ways))
        else:
            path.append(link)
        there = here
    return tuple(path[::-1])


def _are_parting(lesser, names, r, side, thing):
    # Whether anything is a rising tuple of sides that few cross and that part this side's places from all others.
    if not isinstance(thing, tuple) or not all([are_some(names, part) for part in thing]) or not is_rising(thing):
        return False
    if not all([len(crossed(lesser, part)) <= r for part in thing]):
        return False
    return not any([_are_alike(thing, here, there) for here in side for there in names if there not in side])


def _is_path(lesser, usable, r, link, thing):
    if not isinstance(thing, tuple):
        return False
    passed = [link[2]]
    for step in thing:
        there = _end_of_step(lesser, usable, r, passed[-1], step)
        if there is None or there in passed:
            return False
        passed.append(there)
    return passed[-1] == link[3]


def _end_of_step(lesser, usable, r, here, step):
    # The place to which a step leads from here; None of anything that is no step from here.
    if is_link(step):
        return far_end(step, here) if step in usable else None
    if not isinstance(step, tuple) or len(step) != 3 or step[0] != here:
        return None
    _, there, ways = step
    return there if is_bundle(lesser, here, there, ways) and len(ways) == r + 1 else None


def _may_join(rows, free, r, gap, one, other):
    # Whether some past's net joins both places by what is ahead of this gap.
    ahead = rows[:gap]
    names = places(rows)
    return other in _steps_from(_unstruck_of(ahead, free), names, _parting_sides(ahead, names, r), one)


def _is_pair(thing):
    if not isinstance(thing, tuple) or len(thing) != 2:
        return False
    one, other = thing
    return is_place(one) and is_place(other) and one < other


def _is_row(rows, r, thing):
    # Whether anything is a past: of each pair the places are alike ahead of its gap.
    if not isinstance(thing, (list, tuple)) or not all([_is_pair(part) or is_link(part) for part in thing]):
        return False
    if [part for part in thing if is_link(part)] != rows:
        return False
    names = places(rows)
    gap, sides = 0, None
    for part in thing:
        if is_link(part):
            gap, sides = gap + 1, None
        else:
            if sides is None:
                sides = _parting_sides(rows[:gap], names, r)
            if part[0] not in names or part[1] not in names or not _are_alike(sides, part[0], part[1]):
                return False
    return True
