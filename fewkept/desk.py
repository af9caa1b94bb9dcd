"""A desk that answers rows of words from its house (stage 8 of the document)."""

from fewkept.errors import NoLink, NoPlace, TooMany
from fewkept.houses import House
from fewkept.keeping import strikes
from fewkept.links import is_link, is_place
from fewkept.texts import figured, link_text, worded_link
from fewkept.ways import wide

MOST_FIGURES = 40


class Desk:
    """A house that is asked by rows of words."""

    def __init__(self, r):
        self._house = House(r)

    def answer(self, row):
        """The answer to a row; what is refused is named, and a row of no form is asked back: what."""
        if not isinstance(row, str):
            return "what"
        word, *rest = row.split(" ")
        try:
            return _answer(self._house, word, rest)
        except NoLink:
            return "no nolink"
        except NoPlace:
            return "no noplace"
        except TooMany:
            return "no toomany"


def _hear(house, link):
    word, *shown = house.hear(link)
    if word == "new" and shown[0]:
        return f"new, gone {len(shown[0])}"
    return word


def _strike(house, link):
    return house.strike(link)


def _surely(house, link):
    word, _, shown = house.surely(link)
    if word == "in":
        return "in"
    forgotten = [step for step in shown if not is_link(step)]
    return f"open {len(forgotten)}"


def _why(house, link):
    links = house.links()
    if link not in links:
        return "left"
    return f"kept {len(strikes(links, house.many(), link))}"


def _between(house, one, other):
    first, last = house.between(one, other)
    return f"{_gap_text(first)} {_gap_text(last)}"


def _wide(house, one, other):
    return str(wide(house.links(), one, other))


def _net(house):
    texts = [link_text(link) for link in house.net()]
    return ", ".join(texts) if texts else "-"


def _sure(house):
    return house.sure()[0]


def _keeps(house):
    return str(len(house))


def _lessen(house, r):
    gone, _ = house.lessen(r)
    return str(len(gone))


OF_ITSELF = {"net": _net, "sure": _sure, "keeps": _keeps}
OF_A_LINK = {"link": _hear, "strike": _strike, "surely": _surely, "why": _why}
OF_PLACES = {"between": _between, "wide": _wide}


def _answer(house, word, rest):
    if word in OF_ITSELF and not rest:
        action = OF_ITSELF[word]
        return action(house)
    if word in OF_A_LINK:
        link = worded_link(rest)
        if link is not None:
            action = OF_A_LINK[word]
            return action(house, link)
    if word in OF_PLACES and len(rest) == 2 and all([is_place(name) for name in rest]):
        action = OF_PLACES[word]
        return action(house, rest[0], rest[1])
    if word == "lessen" and len(rest) == 1:
        r = figured(rest[0], MOST_FIGURES)
        if r is not None:
            return _lessen(house, r)
    return "what"


def _gap_text(gap):
    return "-" if gap is None else str(gap)
