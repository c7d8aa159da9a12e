"""Orders, rows and odd things for the tests, made without the program."""

from itertools import combinations, permutations


def nested(depth):
    thing = 0
    for level in range(depth):
        thing = ([thing], (thing,), {"k": thing})[level % 3]
    return thing


def odd_things():
    """Things of whatever kind; none is an order, a row, a list of rows or a list of pairs."""
    return [
        None, True, False, -1, 9, 10 ** 40 - 1, 1 - 10 ** 40,
        "", " ", "0", "1", "order", "0<1", "(1, ())",
        [None], [True], [0], [[]], [[0, 1]], [(0,), 1], [{}], ["01"], [(0, True)], [(False, 1)], [(0, "1")],
        [(0, None)], [()], [(0, 1, 2, 9)], [(0, [])], [({}, 0)],
        (), (None,), (True,), (False,), ("0",), (-1,), (8,), ([],), ({},), ((0,),), (True, ()), (1,), (1, None),
        (1, []), (1, (), ()), ("1", ()), (None, ()), (0, ()), (9, ()), (-1, ()), (10 ** 39, ()), ([], ()), ({}, ()),
        (2, (0, 1)), (2, ((0, 1, 1),)), (2, ((0,),)), (2, ([0, 1],)), (2, [(0, 1)]), (2, ((0, True),)),
        (2, ((False, 1),)), (2, (("0", "1"),)), (2, ((0, None),)), (2, ((0, 2),)), (2, ((-1, 0),)), (2, "01"),
        (2, {(0, 1): True}), (2, ({}, {})), [1, ()], [2, [(0, 1)]], {1: ()}, {}, {0: 1}, {"many": 1},
        nested(8), nested(9), nested(10),
    ]


def subsets(things):
    for size in range(len(things) + 1):
        for chosen in combinations(things, size):
            yield chosen


def is_plain_order(pairs):
    held = set(pairs)
    if any(a == b for a, b in held):
        return False
    return all((a, d) in held for a, b in held for c, d in held if b == c)


def small_orders(many):
    """All orders of so many things, at most four: each set of pairs is tried."""
    pairs = [(a, b) for a in range(many) for b in range(many) if a != b]
    return [(many, chosen) for chosen in subsets(pairs) if is_plain_order(chosen)]


def plain_closed(pairs):
    held = set(pairs)
    while True:
        more = {(a, d) for a, b in held for c, d in held if b == c} - held
        if not more:
            return tuple(sorted(held))
        held |= more


def chain(many):
    return (many, tuple(combinations(range(many), 2)))


def loose(many):
    return (many, ())


def crown(half):
    pairs = [(i, half + j) for i in range(half) for j in range(half) if i != j]
    return (2 * half, tuple(sorted(pairs)))


def fence(many):
    pairs = [(i, j) for i in range(0, many, 2) for j in (i - 1, i + 1) if 0 <= j < many]
    return (many, tuple(sorted(pairs)))


def cube():
    return (8, tuple((a, b) for a in range(8) for b in range(8) if a != b and a & b == a))


def mixed(many, seed):
    """An order of no plain shape: pairs are chosen, and things numbered anew, by the seed."""
    names = sorted(range(many), key=lambda thing: (thing * 5 + seed * 3) % 11)
    pairs = []
    for at, (a, b) in enumerate(combinations(range(many), 2)):
        if (at * at + seed * (at + 3)) % 7 < 2:
            pairs.append((names[a], names[b]))
    return (many, plain_closed(pairs))


def big_orders():
    """Orders of five to eight things."""
    made = [cube(), crown(3), crown(4), (5, ((0, 4),)), (8, ((7, 0),))]
    for many in range(5, 9):
        made += [chain(many), loose(many), fence(many)]
        made += [mixed(many, seed) for seed in range(12)]
    return made


def some_orders():
    return small_orders(1) + small_orders(2) + small_orders(3) + small_orders(4)[::5] + big_orders()


def plain_rows(order):
    """All rows of an order, in the order of tuples."""
    many, pairs = order
    return [row for row in permutations(range(many)) if all(row.index(a) < row.index(b) for a, b in pairs)]


def is_apart(order, a, b):
    return a != b and (a, b) not in order[1] and (b, a) not in order[1]


def plain_turns(order):
    things = range(order[0])
    return [(a, b) for a in things for b in things if is_apart(order, a, b)]
