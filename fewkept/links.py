"""Links between places (stage 1 of the document)."""

from fewkept.errors import NoLink

MOST_SIGNS = 6
MOST_COST = 1000000


def is_place(thing):
    """Whether anything is a place: a text of 1 to 6 small letters."""
    if not isinstance(thing, str) or not 1 <= len(thing) <= MOST_SIGNS:
        return False
    return all(["a" <= sign <= "z" for sign in thing])


def is_number(thing, most):
    """Whether anything is a number from 0 to most; truths are none."""
    return isinstance(thing, int) and not isinstance(thing, bool) and 0 <= thing <= most


def is_link(thing):
    """Whether anything is a link: (cost, mark, one, other), one ahead of other."""
    if not isinstance(thing, tuple) or len(thing) != 4:
        return False
    cost, mark, one, other = thing
    if not is_number(cost, MOST_COST) or not is_number(mark, MOST_COST):
        return False
    return is_place(one) and is_place(other) and one < other


def rising(links):
    """The rising list of these links, each once; NoLink of the first that is none."""
    if not isinstance(links, (list, tuple)):
        raise NoLink(0)
    for at, link in enumerate(links):
        if not is_link(link):
            raise NoLink(at)
    return sorted(set(links))


def places(links):
    """The rising list of all places that these links join."""
    rows = rising(links)
    return sorted({place for link in rows for place in link[2:]})


def ahead_of(rows, link):
    """Those of these links that are lesser than this one."""
    return [row for row in rows if row < link]
