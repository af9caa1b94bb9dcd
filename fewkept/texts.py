"""Links and pages as texts, and back (stage 8 of the document)."""

from fewkept.errors import NoLink, NoPage, NoText
from fewkept.houses import is_page
from fewkept.keeping import MOST_STRIKES
from fewkept.links import is_link, is_number
from fewkept.ways import parted

MOST_FIGURES = 7
STRUCK = "struck"


def link_text(link):
    """A link's text: COST MARK ONE OTHER."""
    if not is_link(link):
        raise NoLink(0)
    cost, mark, one, other = link
    return f"{cost} {mark} {one} {other}"


def read_link(text):
    """The link whose text this is."""
    link = worded_link(text.split(" ")) if isinstance(text, str) else None
    if link is None:
        raise NoText(0)
    return link


def page_text(page):
    """A page's text: keeps R, the links, and the struck ones, a row each."""
    if not is_page(page):
        raise NoPage("no page of a house")
    r, links, struck = page
    rows = [f"keeps {r}", *[link_text(link) for link in links], *[f"{STRUCK} {link_text(link)}" for link in struck]]
    return "".join([f"{row}\n" for row in rows])


def read_page(text):
    """The page whose text this is."""
    rows = text.split("\n") if isinstance(text, str) else [""]
    r = _read_strikes(rows[0])
    if r is None:
        raise NoText(0)
    links, struck = [], []
    for at, row in enumerate(rows[1:-1]):
        if not _goes_on(r, links, struck, row):
            raise NoText(at + 1)
    if rows[-1] != "":
        raise NoText(len(rows) - 1)
    return r, tuple(links), tuple(struck)


def worded_link(words):
    """The link whose text has these words; None where there is none."""
    if len(words) != 4:
        return None
    cost, mark, one, other = words
    link = (figured(cost, MOST_FIGURES), figured(mark, MOST_FIGURES), one, other)
    return link if is_link(link) else None


def figured(word, most):
    """The number whose text this word is, of at most so many figures; None of any other word."""
    if not 1 <= len(word) <= most or not all(["0" <= sign <= "9" for sign in word]):
        return None
    if word[0] == "0" and word != "0":
        return None
    return int(word)


def _read_strikes(row):
    word, _, figures = row.partition(" ")
    r = figured(figures, 1)
    return r if word == "keeps" and is_number(r, MOST_STRIKES) else None


def _goes_on(r, links, struck, row):
    # Whether a page's text goes on with this row behind these links and struck ones; then they hold it, too.
    words = row.split(" ")
    if words[0] == STRUCK:
        return _rises(struck, worded_link(words[1:]))
    if struck or not _rises(links, worded_link(words)):
        return False
    *lesser, link = links
    word, _ = parted(lesser, link[2], link[3], r + 1)
    return word == "side"


def _rises(rows, link):
    # Whether this is a link, greater than these rows; then they hold it, too.
    if link is None or (rows and link <= rows[-1]):
        return False
    rows.append(link)
    return True
