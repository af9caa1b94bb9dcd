"""Houses that note what they do, and a judge of such records, who seeks nothing (stage 7 of the document)."""

from fewkept.houses import House, has_page_form
from fewkept.keeping import MOST_STRIKES, has_side, has_ways, weighed
from fewkept.links import ahead_of, is_link, is_number, places, rising
from fewkept.nets import net_paper, shows_net, taken
from fewkept.pasts import is_link_answer, is_sure_answer, place_pairs
from fewkept.ways import is_rising


class Noted(House):
    """A house that notes what it hears and what it tells."""

    def __init__(self, r):
        super().__init__(r)
        self._began = r
        self._notes = []

    def hear(self, link):
        """As a house tells it, noted."""
        answer = super().hear(link)
        self._notes.append(("heard", link, answer))
        return answer

    def strike(self, link):
        """As a house tells it, noted."""
        answer = super().strike(link)
        self._notes.append(("struck", link, answer))
        return answer

    def many(self):
        """As a house tells it."""
        return super().many()

    def links(self):
        """As a house tells it."""
        return super().links()

    def struck(self):
        """As a house tells it."""
        return super().struck()

    def net(self):
        """As a house tells it, noted."""
        chosen = super().net()
        paper = net_paper(self._links, struck=self._struck)
        self._notes.append(("net", tuple(chosen), tuple(paper.items())))
        return chosen

    def sure(self):
        """As a house tells it, noted."""
        answer = super().sure()
        self._notes.append(("sure", _noted_answer(answer)))
        return answer

    def surely(self, link):
        """As a house tells it, noted."""
        answer = super().surely(link)
        self._notes.append(("surely", link, answer))
        return answer

    def between(self, one, other):
        """As a house tells it."""
        return super().between(one, other)

    def lessen(self, r):
        """As a house tells it, noted."""
        answer = super().lessen(r)
        self._notes.append(("lessened", r, answer))
        return answer

    def page(self):
        """As a house tells it."""
        return super().page()

    def take(self, page):
        """As a house tells it, noted."""
        answers = super().take(page)
        self._notes.append(("took", page, _sides_of(page), answers))
        return answers

    def twin(self):
        """Another noted house that stands alike, with this one's record."""
        other = Noted(self._began)
        other._stand_as(self)
        other._notes = list(self._notes)
        return other

    def record(self):
        """For how many strikes it began, and what it noted since: (r, rows)."""
        return self._began, tuple(self._notes)

    def __eq__(self, other):
        return isinstance(other, House) and self.page() == other.page()

    def __len__(self):
        return len(self._links)


class Ahead:
    """What a judge has of a house behind the rows that he went through: nothing but what is kept."""

    def __init__(self, r):
        self.r = r
        self.kept = []
        self.gone = []

    def free(self):
        """The kept ones that aren't struck."""
        return [link for link in self.kept if link not in self.gone]


def judged(record):
    """None of a record that is so; else the number of the first row that isn't, -1 of what is no record at all."""
    if not isinstance(record, tuple) or len(record) != 2:
        return -1
    r, rows = record
    if not is_number(r, MOST_STRIKES) or not isinstance(rows, tuple):
        return -1
    ahead = Ahead(r)
    for at, row in enumerate(rows):
        if not _is_so(ahead, row):
            return at
    return None


def _sides_of(page):
    # Shows that a page's links keep all of themselves.
    r, links, _ = page
    return tuple([(link, side) for link, (_, side) in weighed(links, r).items()])


def _noted_answer(answer):
    # What sure tells, with a tuple for its dict.
    if answer[0] == "unsure":
        return answer
    word, paper = answer
    return word, tuple(paper.items())


def _is_heard(ahead, row):
    _, link, answer = row
    return is_link(link) and _hears(ahead, link, answer)


def _is_struck(ahead, row):
    _, link, answer = row
    if not is_link(link) or answer != ("known" if link in ahead.gone else "new"):
        return False
    _strike_all(ahead, [link])
    return True


def _is_taken(ahead, row):
    _, page, sides, answers = row
    if not has_page_form(page) or page[0] < ahead.r:
        return False
    r, links, struck = page
    if _firsts_of(sides) != list(links) or not _all_stand(links, r, sides):
        return False
    if not isinstance(answers, tuple) or len(answers) != len(links):
        return False
    for link, answer in zip(links, answers):
        if not _hears(ahead, link, answer):
            return False
    _strike_all(ahead, struck)
    return True


def _is_lessened(ahead, row):
    _, r, answer = row
    if not is_number(r, ahead.r) or not isinstance(answer, tuple):
        return False
    ahead.r = r
    return _sifts(ahead, [], ahead.kept, answer)


def _is_net(ahead, row):
    _, links, paper = row
    others = _firsts_of(paper)
    if not isinstance(links, tuple) or others is None or not is_rising(others):
        return False
    return shows_net(ahead.free(), links, {link: way for link, way in paper})


def _is_sure(ahead, row):
    _, answer = row
    if not isinstance(answer, tuple):
        return False
    if len(answer) == 2:
        word, shown = answer
        if not _are_pairs(shown) or [pair for pair, _ in shown] != place_pairs(ahead.kept):
            return False
        answer = (word, {pair: entry for pair, entry in shown})
    return is_sure_answer(ahead.kept, ahead.free(), ahead.r, answer)


def _is_surely(ahead, row):
    _, link, answer = row
    free = ahead.free()
    if not is_link(link) or link not in taken(free):
        return False
    return is_link_answer(ahead.kept, free, ahead.r, link, answer)


LOOKS = {
    ("heard", 3): _is_heard,
    ("struck", 3): _is_struck,
    ("took", 4): _is_taken,
    ("lessened", 3): _is_lessened,
    ("net", 3): _is_net,
    ("sure", 2): _is_sure,
    ("surely", 3): _is_surely,
}


def _hears(ahead, link, answer):
    # Whether anything is what a house tells that hears this link; then what is ahead holds it, too.
    if not isinstance(answer, tuple) or not answer:
        return False
    if link in ahead.kept:
        return answer == ("known",)
    word, *shown = answer
    if len(shown) == 1:
        return word == "left" and has_ways(ahead.kept, ahead.r, link, shown[0])
    lesser = ahead_of(ahead.kept, link)
    greater = [row for row in ahead.kept if row > link]
    return word == "new" and _sifts(ahead, lesser, [link, *greater], shown) and link in ahead.kept


def _sifts(ahead, lesser, rows, shown):
    # Whether (gone, stands) show which of these rows are kept behind lesser kept ones; then just these are kept.
    if len(shown) != 2:
        return False
    gone, stands = shown
    lost, stood = _firsts_of(gone), _firsts_of(stands)
    if lost is None or stood is None or not is_rising(lost) or not is_rising(stood) or sorted(lost + stood) != rows:
        return False
    ahead.kept = [*lesser, *stood]
    if not all([has_ways(ahead.kept, ahead.r, link, ways) for link, ways in gone]):
        return False
    return _all_stand(ahead.kept, ahead.r, stands)


def _all_stand(stays, r, pairs):
    # Whether of each pair's link the other thing is a side that at most r lesser of those that stay cross.
    names = places(stays)
    return all([has_side(names, stays, r, link, side) for link, side in pairs])


def _strike_all(ahead, links):
    ahead.gone = rising([*ahead.gone, *links])


def _are_pairs(thing):
    return isinstance(thing, tuple) and all([isinstance(part, tuple) and len(part) == 2 for part in thing])


def _firsts_of(thing):
    # The links that stand first in a tuple of pairs; None of anything else.
    if not _are_pairs(thing) or not all([is_link(first) for first, _ in thing]):
        return None
    return [first for first, _ in thing]


def _is_so(ahead, row):
    # Whether anything is a row that is so by all ahead; then what is ahead holds it, too.
    if not isinstance(row, tuple) or not row or not isinstance(row[0], str):
        return False
    form = (row[0], len(row))
    if form not in LOOKS:
        return False
    look = LOOKS[form]
    return look(ahead, row)
