"""Houses: they hear links, keep few of them, and forget the others at once (stage 6 of the document)."""

from fewkept.errors import NoLink, NoPage, TooMany
from fewkept.keeping import MOST_STRIKES, check_strikes, kept, weighed
from fewkept.links import ahead_of, is_link, is_number
from fewkept.nets import net
from fewkept.pasts import between, link_sure, sure
from fewkept.ways import is_rising, parted


class House:
    """What is kept for some strikes of all links that came, by hand or by page, and what was struck."""

    def __init__(self, r):
        check_strikes(r)
        self._r = r
        self._links = []
        self._struck = []

    def hear(self, link):
        """What becomes of a link: ("known",), ("left", ways), or ("new", gone, stands)."""
        _check_link(link)
        return self._take_link(link)

    def strike(self, link):
        """Strike a link, whether it ever came or not: "new", or "known" of a struck one."""
        _check_link(link)
        return self._take_strike(link)

    def many(self):
        """For how many strikes it keeps links."""
        return self._r

    def links(self):
        """The rising list of what it keeps."""
        return list(self._links)

    def struck(self):
        """The rising list of what was struck."""
        return list(self._struck)

    def net(self):
        """The net of what it keeps, behind its strikes."""
        return net(self._links, struck=self._struck)

    def sure(self):
        """Whether that net is the net of all that ever came, whatever was forgotten."""
        return sure(self._links, self._r, struck=self._struck)

    def surely(self, link):
        """Whether this link of that net is in it whatever was forgotten."""
        return link_sure(self._links, self._r, link, struck=self._struck)

    def between(self, one, other):
        """The least gaps ahead of which two places may be joined, and surely are; None where they never are."""
        return between(self._links, self._r, one, other, struck=self._struck)

    def lessen(self, r):
        """Keep for fewer strikes from now on: (gone, stands)."""
        if not is_number(r, self._r):
            raise TooMany(self._r)
        self._r = r
        return self._weigh([], self._links)

    def page(self):
        """All that another house needs of this one: (r, links, struck)."""
        return self._r, tuple(self._links), tuple(self._struck)

    def take(self, page):
        """Hear the links of a page, then its strikes: what became of each link."""
        if not is_page(page) or page[0] < self._r:
            raise NoPage("no page of a house for as many strikes")
        _, links, struck = page
        answers = []
        for link in links:
            answers.append(self._take_link(link))
        for link in struck:
            self._take_strike(link)
        return tuple(answers)

    def twin(self):
        """Another house that stands alike."""
        other = House(self._r)
        other._stand_as(self)
        return other

    def __eq__(self, other):
        return isinstance(other, House) and self.page() == other.page()

    def __len__(self):
        return len(self._links)

    def _stand_as(self, house):
        self._r, self._links, self._struck = house.many(), house.links(), house.struck()

    def _take_link(self, link):
        if link in self._links:
            return ("known",)
        lesser = ahead_of(self._links, link)
        word, shown = parted(lesser, link[2], link[3], self._r + 1)
        if word == "ways":
            return "left", shown
        greater = [row for row in self._links if row > link]
        gone, stands = self._weigh(lesser, [link, *greater])
        return "new", gone, stands

    def _take_strike(self, link):
        if link in self._struck:
            return "known"
        self._struck = sorted([*self._struck, link])
        return "new"

    def _weigh(self, ahead, rows):
        # Keep those of these rows that are kept behind what is kept ahead of them; what goes and what stands is told.
        paper = weighed(rows, self._r, ahead)
        gone = [(link, shown) for link, (word, shown) in paper.items() if word == "left"]
        stands = [(link, shown) for link, (word, shown) in paper.items() if word == "kept"]
        self._links = [*ahead, *[link for link, _ in stands]]
        return tuple(gone), tuple(stands)


def is_page(thing):
    """Whether anything is a page of a house: (r, links, struck), the links all kept for r strikes."""
    if not has_page_form(thing):
        return False
    r, links, _ = thing
    return kept(links, r) == list(links)


def has_page_form(thing):
    """Whether anything is a number of strikes and two rising tuples of links, whatever of these is kept."""
    if not isinstance(thing, tuple) or len(thing) != 3:
        return False
    r, links, struck = thing
    return is_number(r, MOST_STRIKES) and _is_rising_row(links) and _is_rising_row(struck)


def _is_rising_row(thing):
    return isinstance(thing, tuple) and all([is_link(part) for part in thing]) and is_rising(thing)


def _check_link(link):
    if not is_link(link):
        raise NoLink(0)
