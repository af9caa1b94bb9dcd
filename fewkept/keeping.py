"""What is kept of links, what that shows, and how little it is (stage 4 of the document)."""

from fewkept.errors import NoLink, TooMany
from fewkept.links import ahead_of, is_link, is_number, places, rising
from fewkept.nets import is_part
from fewkept.ways import are_some, crossed, is_bundle, is_side_of, parted

MOST_STRIKES = 5


def kept(links, r):
    """The rising list of the links that are kept for r strikes."""
    return _stays(keep_paper(links, r))


def keep_paper(links, r):
    """From each link to ("kept", side), or ("left", ways), by lesser kept ones."""
    rows = rising(links)
    check_strikes(r)
    return weighed(rows, r)


def shows_kept(links, r, told, paper):
    """Whether told and paper, whatever they are, show that told is what is kept."""
    rows = rising(links)
    check_strikes(r)
    if not is_part(told, rows) or not isinstance(paper, dict):
        return False
    # A key may equal a link and be none: truths equal numbers.
    if len(paper) != len(rows) or not all([is_link(key) and key in rows for key in paper]):
        return False
    names = places(rows)
    return all([_is_shown(names, r, list(told), link, paper[link]) for link in rows])


def strikes(links, r, link):
    """A rising tuple of as few links as can be, behind the striking of which the net has this kept link."""
    paper = keep_paper(links, r)
    if not is_link(link) or link not in _stays(paper):
        raise NoLink(0)
    _, side = paper[link]
    # Of the links that are left none crosses: as few as can be of the kept ones are as few as can be of all.
    return tuple(crossed(ahead_of(_stays(paper), link), side))


def splits(links, r):
    """A tree of sides that at most r + 1 kept links cross, until no links are within a part."""
    return _tree(kept(links, r), r)


def shows_splits(links, r, thing):
    """Whether anything is such a tree."""
    return _is_tree(kept(links, r), r, thing)


def check_strikes(r):
    """Refuse whatever is no number of strikes."""
    if not is_number(r, MOST_STRIKES):
        raise TooMany(MOST_STRIKES)


def weighed(rows, r, ahead=()):
    """As keep_paper tells it of rising links; all of those ahead of them are kept."""
    paper, stays = {}, list(ahead)
    for link in rows:
        word, shown = parted(stays, link[2], link[3], r + 1)
        if word == "ways":
            paper[link] = ("left", shown)
        else:
            paper[link] = ("kept", shown)
            stays.append(link)
    return paper


def has_side(names, stays, r, link, thing):
    """Whether anything is a side of a link's two places, of these places, that at most r lesser kept ones cross."""
    return is_side_of(names, link[2], link[3], thing) and len(crossed(ahead_of(stays, link), thing)) <= r


def has_ways(stays, r, link, thing):
    """Whether anything is r + 1 ways between a link's two places by lesser kept ones."""
    return is_bundle(ahead_of(stays, link), link[2], link[3], thing) and len(thing) == r + 1


def _stays(paper):
    return [link for link, (word, _) in paper.items() if word == "kept"]


def _is_shown(names, r, stays, link, thing):
    # Whether anything shows of a link that it is kept where it is among what stays, left where it isn't.
    if not isinstance(thing, tuple) or len(thing) != 2:
        return False
    word, shown = thing
    if link in stays:
        return word == "kept" and has_side(names, stays, r, link, shown)
    return word == "left" and has_ways(stays, r, link, shown)


def _tree(rows, r):
    if not rows:
        return ()
    # At most r lesser ones cross a side of the greatest link, for it is kept: with it at most r + 1.
    *lesser, greatest = rows
    _, side = parted(lesser, greatest[2], greatest[3], r + 1)
    first, second = _halves(rows, side)
    return side, _tree(first, r), _tree(second, r)


def _halves(rows, side):
    # The links with both places within the side, and those with both elsewhere.
    first = [link for link in rows if link[2] in side and link[3] in side]
    second = [link for link in rows if link[2] not in side and link[3] not in side]
    return first, second


def _is_tree(rows, r, thing):
    if not isinstance(thing, tuple) or not rows:
        return thing == ()
    if len(thing) != 3:
        return False
    names = places(rows)
    side, first, second = thing
    if not are_some(names, side) or not 0 < len(side) < len(names) or len(crossed(rows, side)) > r + 1:
        return False
    within, beyond = _halves(rows, side)
    return _is_tree(within, r, first) and _is_tree(beyond, r, second)
