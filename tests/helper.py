"""What the tests share: things of all kinds, small sets of links, and slow plain reckonings."""

import copy
import random
from itertools import combinations, product

GOOD = (3, 7, "a", "b")


def nested(depth, wrap):
    """Things within one another: depth lists, tuples or dicts."""
    thing = 1
    for _ in range(depth):
        thing = wrap(thing)
    return thing


def things():
    """Things of all kinds, new ones each time; none is a link, a place, or a list of links but the empty ones."""
    return [
        0, 1, -1, 5, 10 ** 6, 10 ** 39, -(10 ** 39), True, False, None,
        "", "A", "a b", "aaaaaaa", "a1", "a_", " a", "a ", "\n", "a\n", "3 7 a b", "~",
        [], [1], [None], ["a"], [[]], ["a", "b"], [3, 7, "a", "b"], [[3, 7, "a", "b"]],
        (), (1,), (None,), ("a",), ((),), ("a", "b"), (3, 7, "a"), (3, 7, "a", "b", "c"),
        {}, {1: 1}, {None: []}, {"a": "b"}, {(3, 7, "a", "b"): ()}, {(): {}},
        (True, 7, "a", "b"), (3, False, "a", "b"), (3, 7, "b", "a"), (3, 7, "a", "a"),
        (3, 7, "", "b"), (3, 7, "a", ""), (3, 7, "a", "aaaaaaa"), (3, 7, "A", "b"), (3, 7, "a", "b1"),
        (-1, 7, "a", "b"), (3, -1, "a", "b"), (10 ** 6 + 1, 7, "a", "b"), (3, 10 ** 6 + 1, "a", "b"),
        ("3", 7, "a", "b"), (3, "7", "a", "b"), (3, 7, 1, "b"), (3, 7, "a", None), (3, 7, ["a"], "b"),
        ([3], 7, "a", "b"), (3, None, "a", "b"), ((3, True, "a", "b"),), (3, 7, ("a", "b")), "abcd",
        nested(14, lambda x: [x]), nested(14, lambda x: (x,)), nested(14, lambda x: {"k": x}),
    ]


def small_sets():
    """Many small sets of links, some told twice, in no order: (links, struck) pairs."""
    yield [], []
    spots = list(combinations("abc", 2))
    for many in range(1, 4):
        for pairs in product(spots, repeat=many):
            for costs in product((1, 2), repeat=many):
                yield [(cost, at % 2, *pair) for at, (cost, pair) in enumerate(zip(costs, pairs))], []
    dice = random.Random(2026)
    for _ in range(400):
        yield random_set(dice, "abcdef"[:dice.randint(2, 6)], dice.randint(0, 9))


def random_set(dice, names, many):
    """Links between some places, of few costs and marks, and struck ones, some of them told, some not."""
    def one():
        return (dice.randint(0, 3), dice.randint(0, 2), *sorted(dice.sample(names, 2)))
    links = [one() for _ in range(many)]
    links += [dice.choice(links) for _ in range(2) if links]
    struck = [link for link in links if dice.random() < 0.2] + [one() for _ in range(dice.randint(0, 2))]
    return links, struck


def all_ways(links, here, goal, passed=()):
    """Every way from here to goal by these links, gone through one by one."""
    if here == goal:
        yield ()
        return
    for link in sorted(set(links)):
        for near, there in (link[2:], link[:1:-1]):
            if near == here and there not in passed + (here,):
                for rest in all_ways(links, there, goal, passed + (here,)):
                    yield (link, *rest)


def slow_net(links, struck):
    """The net, by the document's words: a link is taken where no way of taken ones leads between its places."""
    taken = []
    for link in sorted(set(links) - set(struck)):
        if not list(all_ways(taken, link[2], link[3])):
            taken.append(link)
    return taken


def slow_paper(links, struck):
    """The net's paper as a list of pairs; each other link has just one way of lesser net links."""
    chosen = slow_net(links, struck)
    pairs = []
    for link in sorted(set(links) - set(struck) - set(chosen)):
        (way,) = all_ways([row for row in chosen if row < link], link[2], link[3])
        pairs.append((link, way))
    return pairs


def slow_joined(links, one, other):
    """The least of the ways of the fewest links, None where there is none."""
    return min(all_ways(links, one, other), key=lambda way: (len(way), way), default=None)


def same(first, second):
    """Whether two things are alike in kinds, too: no truth is a number, no tuple a list, dicts in their order."""
    return repr(first) == repr(second)


def unchanged(case, call, *args, **more):
    """What a call tells, when what was handed in stayed as it was."""
    before = copy.deepcopy((args, more))
    try:
        return call(*args, **more)
    finally:
        case.assertTrue(same(before, (args, more)))


def refusal(call, *args, **more):
    """The class and the fields of what a call refuses; None where it refuses nothing."""
    try:
        call(*args, **more)
    except ValueError as error:
        return type(error).__name__, vars(error)
    return None


def refused_in_order(case, call, good, wrongs):
    """A call refuses, of several wrong arguments, the one told first: wrongs are (name, worth, refusal), in order."""
    case.assertIsNone(refusal(call, **good))
    for many in range(1, len(good) + 1):
        for chosen in combinations(wrongs, many):
            if len({name for name, _, _ in chosen}) == many:
                asked = {**good, **{name: worth for name, worth, _ in chosen}}
                case.assertEqual(refusal(unchanged, case, call, **asked), chosen[0][2], asked)


def otherwise(thing):
    """Every thing that is made of this one by one small change, at any depth."""
    if isinstance(thing, (list, tuple)):
        kind = type(thing)
        for at in range(len(thing)):
            yield kind([*thing[:at], *thing[at + 1:]])
            yield kind([*thing[:at], thing[at], thing[at], *thing[at + 1:]])
            if at and thing[at - 1] != thing[at]:
                yield kind([*thing[:at - 1], thing[at], thing[at - 1], *thing[at + 1:]])
            for part in otherwise(thing[at]):
                yield kind([*thing[:at], part, *thing[at + 1:]])
        if kind is tuple:
            yield list(thing)
        yield kind([*thing, None])
        yield kind([*thing, GOOD])
        yield kind([*thing, (3, 7, "zz", "zzz")])
    elif isinstance(thing, dict):
        for key, worth in thing.items():
            rest = {k: w for k, w in thing.items() if k != key}
            yield rest
            for part in otherwise(key):
                if isinstance(part, tuple):
                    yield {**rest, part: worth}
            for part in otherwise(worth):
                yield {**rest, key: part}
        yield {**thing, GOOD: ()}
        yield {**thing, None: ()}
        yield {**thing, (3, 7, "zz", "zzz"): ()}
    elif isinstance(thing, str):
        yield thing + "a"
        yield thing[:-1]
        yield None
    elif thing is None:
        yield 0
        yield False
        yield ()
    else:
        yield thing + 1
        yield thing - 1
        yield str(thing)
        if thing in (0, 1):
            yield bool(thing)
