import unittest
from itertools import combinations, product

from rowsorder.errors import NoKind
from rowsorder.fewest import do_cross, fewest, fewest_rows
from rowsorder.kinds import fewest_for, is_kind, order_for, rows_for
from rowsorder.orders import is_order
from rowsorder.rows import tell
from rowsorder.turns import together
from tests.samples import chain, crown, cube, fence, frozen, lists_within, loose, odd_things, plain_rows, plain_tell

CROWNS = [("crown", half) for half in (2, 3, 4)]
FENCES = [("fence", many) for many in range(1, 9)]


def product_of(sizes):
    whole = 1
    for size in sizes:
        whole *= size
    return whole


def grids():
    every = [sizes for places in (1, 2, 3) for sizes in product(range(1, 9), repeat=places)]
    return [("grid", sizes) for sizes in every if product_of(sizes) <= 8]


def all_over(many):
    return list(product(*[[None] + list(range(at + 1, many)) for at in range(many)]))


def bushes():
    """All bushes of up to five things, and some of up to eight."""
    made = [over for many in range(1, 6) for over in all_over(many)]
    made += all_over(6)[::11] + all_over(7)[::97] + all_over(8)[::701]
    made += [tuple(range(1, many)) + (None,) for many in (6, 7, 8)]
    return [("bush", over) for over in made]


def kinds():
    return CROWNS + grids() + FENCES + bushes()


def plain_order(kind):
    """The order of a kind, pair by pair as the kind is told."""
    name, said = kind
    if name == "crown":
        return (2 * said, tuple((i, said + j) for i in range(said) for j in range(said) if i != j))
    if name == "fence":
        near = [(a, b) for a in range(said) for b in range(said) if a % 2 == 0 and b in (a - 1, a + 1)]
        return (said, tuple(near))
    if name == "grid":
        cells = sorted(product(*[range(size) for size in said]))
        things = range(len(cells))
        under = [(a, b) for a in things for b in things
                 if a != b and all(x <= y for x, y in zip(cells[a], cells[b]))]
        return (len(cells), tuple(under))
    pairs = []
    for thing in range(len(said)):
        upper = said[thing]
        while upper is not None:
            pairs.append((thing, upper))
            upper = said[upper]
    return (len(said), tuple(sorted(pairs)))


def plain_fewest(kind):
    """How few rows the document tells for a kind."""
    name, said = kind
    if name == "crown":
        return said
    if name == "grid":
        return max(1, len([size for size in said if size > 1]))
    if name == "fence":
        return 1 if said < 3 else 2
    met = set(plain_order(kind)[1])
    return 1 if all(two in met for two in combinations(range(len(said)), 2)) else 2


def no_kinds():
    """Things of which each is no kind, most by one change."""
    wrong = odd_things() + [0, 1, (), [], {}, "crown", ("crown",), ("grid",), ("fence",), ("bush",), ("crown", 3, 3)]
    for name in ("crown", "grid", "fence", "bush"):
        wrong += [(name,), [name], {name: 3}, (name, None), (name, True), (name, False), (name, ()), (name, []),
                  (name, {}), (name, ""), (name, "3"), (name, 0), (name, 9), (name, -1), (name, 10 ** 39),
                  (name, -(10 ** 39)), (name, (0,)), (name, (9,)), (name, (-1,)), (name, (True,)), (name, ("1",)),
                  (name, ([],)), (name, ({},)), (name, ((),)), (name, ((1,),)), (name, (10 ** 39,)),
                  (name, (None,) * 9), (name, (1,) * 4), (name, (1,) * 9), (name, (None, True)), (name, [None]),
                  (name, [1]), (name, {0: None}), (name, (None, "x"))]
    for name in ("Crown", "CROWN", "crow", "crowns", " crown", "crown ", "", None, 0, True, ["crown"], ("crown",), {}):
        wrong.append((name, 3))
    for name in ("Grid", "grids", "rid", "gri", " grid", None, 1, ["grid"], ("grid",)):
        wrong.append((name, (2, 2)))
    for name in ("Fence", "fences", "ence", "", ["fence"], {"fence": 1}):
        wrong.append((name, 4))
    for name in ("Bush", "bus", "bushes", "bush ", ["bush"], ("bush",)):
        wrong.append((name, (1, None)))
    for kind in kinds():
        name, said = kind
        wrong += [list(kind), kind + (said,), (said, name), ([name], said), (name, [said]), (name, (said,)), (kind,)]
        for other in ("crown", "grid", "fence", "bush"):
            # A number may make both a crown and a fence.
            if other != name and {other, name} != {"crown", "fence"}:
                wrong.append((other, said))
    return wrong


class IsKind(unittest.TestCase):
    def test_each_kind(self):
        for kind in kinds():
            self.assertIs(is_kind(kind), True, kind)

    def test_how_many_there_are(self):
        self.assertEqual([half for half in range(-9, 20) if is_kind(("crown", half))], [2, 3, 4])
        self.assertEqual([many for many in range(-9, 20) if is_kind(("fence", many))], list(range(1, 9)))
        for places in (1, 2, 3):
            for sizes in product(range(-1, 10), repeat=places):
                due = min(sizes) > 0 and product_of(sizes) <= 8
                self.assertIs(is_kind(("grid", sizes)), due, sizes)
        for sizes in ((), (1,) * 4, (2, 2, 1, 1), (1, 1, 1, 1, 1)):
            self.assertIs(is_kind(("grid", sizes)), False, sizes)
        for many in range(5):
            for over in product([None, -1] + list(range(many + 1)), repeat=many):
                due = many > 0 and all(upper is None or at < upper < many for at, upper in enumerate(over))
                self.assertIs(is_kind(("bush", over)), due, over)
        for many in (7, 8, 9, 400):
            self.assertIs(is_kind(("bush", (None,) * many)), many < 9)
            self.assertIs(is_kind(("bush", tuple(range(1, many)) + (None,))), many < 9)

    def test_one_thing_turned(self):
        for half in (1, 5, 0, -2, 10 ** 39, -(10 ** 39), True, None, "3", [3], (3,), {3: 3}):
            self.assertIs(is_kind(("crown", half)), False, half)
        for many in (0, 9, -1, 10 ** 39, -(10 ** 39), True, False, None, "1", [1], (1,), {}):
            self.assertIs(is_kind(("fence", many)), False, many)
        for sizes in ((2, 2, 3), (2, 2, 2, 1), (2, 2, 2, 2), (2, 2, 0), (2, 2, -2), (-2, -2, 2), (3, 3), (9,), (0,),
                      (2, True), (True,), (True, 8), (2, 2, True), (2, "2"), (2, None), (2, [2]), (2, (2,)), [2, 2],
                      [2], 2, "22", {2: 2}, (10 ** 39, 1), (1, 10 ** 39), (10 ** 39, 10 ** 39, 10 ** 39),
                      (-(10 ** 39), -1), (4, 2, 2), (1, 1, 9), (), None):
            self.assertIs(is_kind(("grid", sizes)), False, sizes)
        for over in ((0,), (1,), (True, None), (1, 1), (0, None), (2, None), (1, 0), (None, 0), (None, 1), (1, 2),
                     (2, 1, None), (2, 2, 2), (3, 2, None), (-1, None), (10 ** 39, None), (None, False),
                     (False, None), ("1", None), ([1], None), ((1,), None), ({}, None), [1, None], [None], None, 1,
                     "", {0: None}, (), (None,) * 9, (1, None, True), (2, None, ()), (True, 2, None)):
            self.assertIs(is_kind(("bush", over)), False, over)

    def test_of_whatever_kind(self):
        for thing in no_kinds():
            self.assertIs(is_kind(thing), False, thing)


class Refused(unittest.TestCase):
    def test_no_kind(self):
        for thing in no_kinds():
            for ask in (order_for, fewest_for, rows_for):
                with self.assertRaises(NoKind):
                    ask(thing)


class OrderFor(unittest.TestCase):
    def test_by_hand(self):
        self.assertEqual(order_for(("crown", 2)), (4, ((0, 3), (1, 2))))
        self.assertEqual(order_for(("crown", 3)), (6, ((0, 4), (0, 5), (1, 3), (1, 5), (2, 3), (2, 4))))
        self.assertEqual(order_for(("crown", 4)), crown(4))
        self.assertEqual(order_for(("grid", (1,))), (1, ()))
        self.assertEqual(order_for(("grid", (1, 1, 1))), (1, ()))
        self.assertEqual(order_for(("grid", (8,))), chain(8))
        self.assertEqual(order_for(("grid", (1, 3, 1))), chain(3))
        self.assertEqual(order_for(("grid", (2, 2))), (4, ((0, 1), (0, 2), (0, 3), (1, 3), (2, 3))))
        self.assertEqual(
            order_for(("grid", (2, 3))),
            (6, ((0, 1), (0, 2), (0, 3), (0, 4), (0, 5), (1, 2), (1, 4), (1, 5), (2, 5), (3, 4), (3, 5), (4, 5))))
        self.assertEqual(
            order_for(("grid", (3, 2))),
            (6, ((0, 1), (0, 2), (0, 3), (0, 4), (0, 5), (1, 3), (1, 5), (2, 3), (2, 4), (2, 5), (3, 5), (4, 5))))
        self.assertEqual(order_for(("grid", (2, 2, 2))), cube())
        self.assertEqual(order_for(("fence", 1)), (1, ()))
        self.assertEqual(order_for(("fence", 2)), (2, ((0, 1),)))
        self.assertEqual(order_for(("fence", 3)), (3, ((0, 1), (2, 1))))
        self.assertEqual(order_for(("fence", 4)), (4, ((0, 1), (2, 1), (2, 3))))
        self.assertEqual(order_for(("fence", 8)), fence(8))
        self.assertEqual(order_for(("bush", (None,))), (1, ()))
        self.assertEqual(order_for(("bush", (None,) * 8)), loose(8))
        self.assertEqual(order_for(("bush", (1, 2, 3, None))), chain(4))
        self.assertEqual(order_for(("bush", (2, 2, 4, 4, None))), (5, ((0, 2), (0, 4), (1, 2), (1, 4), (2, 4), (3, 4))))
        self.assertEqual(order_for(("bush", (3, None, 3, None))), (4, ((0, 3), (2, 3))))

    def test_pair_by_pair(self):
        for kind in kinds():
            order = order_for(kind)
            self.assertEqual(frozen(order), frozen(plain_order(kind)), kind)
            self.assertIs(is_order(order), True)


class FewestFor(unittest.TestCase):
    def test_as_told(self):
        for kind in kinds():
            few = fewest_for(kind)
            self.assertEqual(few, plain_fewest(kind), kind)
            self.assertIs(few.__class__, int)

    def test_by_hand(self):
        self.assertEqual([fewest_for(kind) for kind in CROWNS], [2, 3, 4])
        self.assertEqual([fewest_for(kind) for kind in FENCES], [1, 1, 2, 2, 2, 2, 2, 2])
        sizes = ((1,), (8,), (1, 1), (1, 5), (5, 1), (1, 1, 1), (1, 1, 2), (2, 2), (2, 4), (1, 2, 4), (2, 1, 3),
                 (2, 2, 2))
        self.assertEqual([fewest_for(("grid", one)) for one in sizes], [1, 1, 1, 1, 1, 1, 1, 2, 2, 2, 2, 3])
        overs = ((None,), (1, None), (None, None), (1, 2, None), (2, 2, None), (1, None, None), (2, None, None),
                 (1, 2, 3, 4, 5, 6, 7, None), (1, 2, 3, 4, 5, 7, 7, None), (2, 2, 3, 4, 5, 6, 7, None))
        self.assertEqual([fewest_for(("bush", one)) for one in overs], [1, 1, 2, 1, 2, 2, 2, 1, 2, 2])

    def test_as_the_search_tells(self):
        for kind in kinds():
            order = plain_order(kind)
            self.assertEqual(fewest(order), fewest_for(kind), kind)
            self.assertEqual(len(fewest_rows(order)), len(rows_for(kind)), kind)


class RowsFor(unittest.TestCase):
    def test_they_tell_the_order_and_are_so_many(self):
        for kind in kinds():
            order = plain_order(kind)
            rows = rows_for(kind)
            self.assertIsInstance(rows, list)
            self.assertEqual(len(rows), plain_fewest(kind), kind)
            for row in rows:
                self.assertIs(row.__class__, tuple)
                self.assertEqual(sorted(row), list(range(order[0])))
                self.assertTrue(all(one.__class__ is int for one in row))
            self.assertTrue(plain_tell(order, rows), kind)
            self.assertIs(tell(rows, order_for(kind)), True, kind)

    def test_one_fewer_does_not(self):
        for kind in CROWNS + grids() + FENCES + bushes()[::9]:
            rows = rows_for(kind)
            for at in range(len(rows)):
                self.assertFalse(plain_tell(plain_order(kind), rows[:at] + rows[at + 1:]) and len(rows) > 1, kind)


class Concluded(unittest.TestCase):
    def test_the_turns_of_a_crown_cross(self):
        for name, half in CROWNS:
            order = order_for((name, half))
            crossing = [(thing, half + thing) for thing in range(half)]
            self.assertIs(do_cross(crossing, order), True)
            for two in combinations(crossing, 2):
                self.assertEqual(together(order, list(two))[0], "ring")
            if half < 4:
                for row in plain_rows(order):
                    self.assertLessEqual(sum(row.index(b) < row.index(a) for a, b in crossing), 1)

    def test_no_more_than_two_rows_but_for_one_grid(self):
        for kind in grids() + FENCES + bushes():
            self.assertEqual(fewest_for(kind) > 2, kind == ("grid", (2, 2, 2)), kind)
            self.assertEqual(len(rows_for(kind)) > 2, kind == ("grid", (2, 2, 2)), kind)
        self.assertEqual(fewest_for(("grid", (2, 2, 2))), 3)


class Kept(unittest.TestCase):
    def test_told_lists_are_the_askers_own(self):
        for kind in CROWNS + grids()[::4] + FENCES + bushes()[::20]:
            told = rows_for(kind)
            before = frozen(told)
            within = lists_within(told)
            self.assertEqual(len(within), 1)
            told.append("mine")
            told[0] = "mine"
            self.assertEqual(frozen(rows_for(kind)), before)

    def test_the_same_asked_again(self):
        for kind in kinds()[::7]:
            first = frozen([order_for(kind), fewest_for(kind), rows_for(kind)])
            self.assertEqual(frozen([order_for(kind), fewest_for(kind), rows_for(kind)]), first)


if __name__ == "__main__":
    unittest.main()
