"""Orders, rows and odd things for the tests, made without the program."""

from itertools import combinations, permutations


def nested(depth):
    thing = 0
    for level in range(depth):
        thing = ([thing], (thing,), {"k": thing})[level % 3]
    return thing


def odd_things():
    """Things of whatever kind; none is an order, a row, a list of rows or a list of pairs."""
    return [
        None, True, False, -1, 9, 10 ** 40 - 1, 1 - 10 ** 40,
        "", " ", "0", "1", "order", "0<1", "(1, ())",
        [None], [True], [0], [[]], [[0, 1]], [(0,), 1], [{}], ["01"], [(0, True)], [(False, 1)], [(0, "1")],
        [(0, None)], [()], [(0, 1, 2, 9)], [(0, [])], [({}, 0)],
        (), (None,), (True,), (False,), ("0",), (-1,), (8,), ([],), ({},), ((0,),), (True, ()), (1,), (1, None),
        (1, []), (1, (), ()), ("1", ()), (None, ()), (0, ()), (9, ()), (-1, ()), (10 ** 39, ()), ([], ()), ({}, ()),
        (2, (0, 1)), (2, ((0, 1, 1),)), (2, ((0,),)), (2, ([0, 1],)), (2, [(0, 1)]), (2, ((0, True),)),
        (2, ((False, 1),)), (2, (("0", "1"),)), (2, ((0, None),)), (2, ((0, 2),)), (2, ((-1, 0),)), (2, "01"),
        (2, {(0, 1): True}), (2, ({}, {})), [1, ()], [2, [(0, 1)]], {1: ()}, {}, {0: 1}, {"many": 1},
        nested(8), nested(9), nested(10),
    ]


def subsets(things):
    for size in range(len(things) + 1):
        for chosen in combinations(things, size):
            yield chosen


def is_plain_order(pairs):
    held = set(pairs)
    if any(a == b for a, b in held):
        return False
    return all((a, d) in held for a, b in held for c, d in held if b == c)


def small_orders(many):
    """All orders of so many things, at most four: each set of pairs is tried."""
    pairs = [(a, b) for a in range(many) for b in range(many) if a != b]
    return [(many, chosen) for chosen in subsets(pairs) if is_plain_order(chosen)]


def plain_closed(pairs):
    held = set(pairs)
    while True:
        more = {(a, d) for a, b in held for c, d in held if b == c} - held
        if not more:
            return tuple(sorted(held))
        held |= more


def chain(many):
    return (many, tuple(combinations(range(many), 2)))


def loose(many):
    return (many, ())


def crown(half):
    pairs = [(i, half + j) for i in range(half) for j in range(half) if i != j]
    return (2 * half, tuple(sorted(pairs)))


def fence(many):
    pairs = [(i, j) for i in range(0, many, 2) for j in (i - 1, i + 1) if 0 <= j < many]
    return (many, tuple(sorted(pairs)))


def cube():
    return (8, tuple((a, b) for a in range(8) for b in range(8) if a != b and a & b == a))


def mixed(many, seed):
    """An order of no plain shape: pairs are chosen, and things numbered anew, by the seed."""
    names = sorted(range(many), key=lambda thing: (thing * 5 + seed * 3) % 11)
    pairs = []
    for at, (a, b) in enumerate(combinations(range(many), 2)):
        if (at * at + seed * (at + 3)) % 7 < 2:
            pairs.append((names[a], names[b]))
    return (many, plain_closed(pairs))


def big_orders():
    """Orders of five to eight things."""
    made = [cube(), crown(3), crown(4), (5, ((0, 4),)), (8, ((7, 0),))]
    for many in range(5, 9):
        made += [chain(many), loose(many), fence(many)]
        made += [mixed(many, seed) for seed in range(12)]
    return made


def knotted_orders():
    """Orders of six to eight things that no two rows tell, without the crown of four and four."""
    made = [crown(3), cube()]
    for many, pairs in (
        (6, ((0, 4), (0, 5), (1, 2), (1, 5), (3, 2), (3, 4))),
        (6, ((0, 3), (2, 1), (2, 3), (4, 0), (4, 5), (5, 1))),
        (6, ((0, 1), (0, 3), (1, 2), (4, 2), (5, 3), (5, 4))),
        (7, ((0, 1), (0, 4), (2, 3), (2, 4), (2, 5), (3, 1), (6, 0), (6, 5))),
        (7, ((0, 2), (0, 6), (3, 1), (3, 6), (5, 1), (5, 2))),
        (7, ((1, 2), (1, 3), (4, 0), (4, 2), (5, 3), (6, 0), (6, 2), (6, 5))),
        (7, ((0, 1), (0, 2), (3, 5), (3, 6), (4, 0), (5, 1), (6, 2))),
        (7, ((0, 3), (2, 0), (2, 4), (4, 5), (6, 1), (6, 3), (6, 5))),
        (7, ((0, 3), (4, 2), (5, 2), (5, 3), (6, 0), (6, 4))),
        (8, ((3, 1), (3, 6), (3, 7), (5, 0), (5, 1), (6, 1), (7, 0))),
        (8, ((0, 4), (0, 5), (1, 3), (1, 4), (1, 5), (6, 5), (7, 4))),
        (8, ((0, 4), (1, 4), (1, 5), (2, 4), (2, 5), (2, 7), (3, 4), (6, 0), (6, 2))),
        (8, ((1, 5), (1, 6), (1, 7), (2, 3), (2, 5), (3, 0), (3, 7), (4, 0), (6, 4))),
        (8, ((0, 4), (0, 5), (0, 7), (1, 6), (3, 6), (4, 2), (4, 3), (5, 1), (5, 2), (7, 1), (7, 2))),
        (8, ((0, 2), (0, 3), (0, 6), (1, 6), (2, 5), (2, 7), (3, 7), (4, 2), (4, 6), (6, 7))),
    ):
        made.append((many, plain_closed(pairs)))
    return made


def some_orders():
    return small_orders(1) + small_orders(2) + small_orders(3) + small_orders(4)[::5] + big_orders()


def plain_rows(order):
    """All rows of an order, in the order of tuples."""
    many, pairs = order
    return [row for row in permutations(range(many)) if all(row.index(a) < row.index(b) for a, b in pairs)]


def is_apart(order, a, b):
    return a != b and (a, b) not in order[1] and (b, a) not in order[1]


def plain_turns(order):
    things = range(order[0])
    return [(a, b) for a in things for b in things if is_apart(order, a, b)]


def plain_tell(order, rows):
    many, pairs = order
    things = range(many)
    told = [(a, b) for a in things for b in things if all(row.index(a) < row.index(b) for row in rows)]
    return tuple(told) == pairs


def turns_all(row, turns):
    return all(row.index(b) < row.index(a) for a, b in turns)


def is_plain_ring(order, ring):
    """Whether a list of turns of the order is a ring."""
    nexts = ring[1:] + ring[:1]
    return bool(ring) and all(a == d or (a, d) in order[1] for (a, b), (c, d) in zip(ring, nexts))


def lists_within(told):
    """All lists that stand in what was told, each as often as it stands there."""
    found = [told] if isinstance(told, list) else []
    if isinstance(told, (list, tuple)):
        for part in told:
            found += lists_within(part)
    return found


def frozen(told):
    """A copy that later changes of what was told can't reach; lists and tuples stay apart."""
    if isinstance(told, (list, tuple)):
        return (told.__class__.__name__, tuple(frozen(part) for part in told))
    return told
