import unittest
from itertools import combinations, permutations, product

from rowsorder.errors import NoPoints, NoRows, NoTurns
from rowsorder.points import (
    are_points, forced, is_knot, one_row, points_of, points_or_knot, rows_of, two_rows,
)
from rowsorder.rows import tell
from tests.samples import (
    chain, crown, cube, fence, frozen, is_apart, knotted_orders, lists_within, loose, odd_things, plain_rows,
    plain_tell, plain_turns, small_orders, some_orders,
)

DIAMOND = (4, ((0, 1), (0, 2), (0, 3), (1, 3), (2, 3)))
STRAIGHT = (0, 1, 2, 3)
CROSSED = (0, 2, 1, 3)
POINTS = [(0, 0), (1, 2), (2, 1), (3, 3)]


def orders():
    return small_orders(1) + small_orders(4) + some_orders() + knotted_orders() + [crown(4)]


def told_order(points):
    things = range(len(points))
    less = [(a, b) for a in things for b in things if points[a][0] < points[b][0] and points[a][1] < points[b][1]]
    return (len(points), tuple(less))


def all_points(many):
    for xs in permutations(range(many)):
        for ys in permutations(range(many)):
            yield list(zip(xs, ys))


def plain_forced(order, turn):
    a, b = turn
    found = []
    for c in range(order[0]):
        if b != c and not is_apart(order, b, c) and is_apart(order, a, c):
            found.append((a, c))
        if a != c and not is_apart(order, a, c) and is_apart(order, c, b):
            found.append((c, b))
    return sorted(found)


def is_plain_knot(order, turns):
    if not turns or turns[-1] != turns[0][::-1]:
        return False
    return all(turns[at] in plain_forced(order, turns[at - 1]) for at in range(1, len(turns)))


class ArePoints(unittest.TestCase):
    def test_plain_ones(self):
        self.assertIs(are_points([(0, 0)], (1, ())), True)
        self.assertIs(are_points(POINTS, DIAMOND), True)
        self.assertIs(are_points([(0, 0), (2, 1), (1, 2), (3, 3)], DIAMOND), True)
        self.assertIs(are_points([(0, 0), (1, 1), (2, 2), (3, 3)], DIAMOND), False)
        self.assertIs(are_points([(at, at) for at in range(8)], chain(8)), True)
        self.assertIs(are_points([(at, 7 - at) for at in range(8)], loose(8)), True)

    def test_all_points_of_few_things(self):
        for many in range(1, 5):
            some = small_orders(many)
            if many == 4:
                some = some[::20] + [DIAMOND]
            for points in list(all_points(many)):
                for order in some:
                    self.assertIs(are_points(points, order), told_order(points) == order)

    def test_every_list_of_three_pairs(self):
        whole = {tuple(points) for points in all_points(3)}
        for some in product(product(range(-1, 4), repeat=2), repeat=3):
            self.assertIs(are_points(list(some), loose(3)), some in whole and told_order(list(some)) == loose(3))
        for some in product(product(range(3), repeat=2), repeat=3):
            for order in small_orders(3):
                self.assertIs(are_points(list(some), order), some in whole and told_order(list(some)) == order)

    def test_a_number_twice(self):
        self.assertIs(are_points([(0, 1), (1, 0)], loose(2)), True)
        self.assertIs(are_points([(0, 1), (0, 0)], loose(2)), False)
        self.assertIs(are_points([(0, 0), (1, 0)], loose(2)), False)
        self.assertIs(are_points([(0, 0), (0, 0)], loose(2)), False)

    def test_what_are_none(self):
        wrong = odd_things() + [
            0, [], (), tuple(POINTS), POINTS[:3], POINTS + [(4, 4)], POINTS[::-1], [list(point) for point in POINTS],
            POINTS[:3] + [[3, 3]], POINTS[:3] + [None], POINTS[:3] + [(3, 3, 3)], POINTS[:3] + [(3,)],
            POINTS[:3] + [(3, 4)], POINTS[:3] + [(4, 3)], POINTS[:3] + [(3, 2)], POINTS[:3] + [(2, 3)],
            [(0, 0), (True, 2), (2, 1), (3, 3)], [(0, 0), (1, 2), (2, True), (3, 3)], [(False, 0)] + POINTS[1:],
            [(-1, 0)] + POINTS[1:], [("0", "0")] + POINTS[1:], [(0, [])] + POINTS[1:], [({}, 0)] + POINTS[1:],
            {0: (0, 0)}, "0123", [POINTS], [0, 1, 2, 3], [(0, 0)] * 4, POINTS * 100, [(0, 10 ** 39)] + POINTS[1:],
            [(0, None)] + POINTS[1:], POINTS + POINTS[:1], [(0, 0), (1, 2), (1, 2), (3, 3)],
        ]
        for thing in wrong:
            self.assertIs(are_points(thing, DIAMOND), False, thing)
        self.assertIs(are_points([(False, False)], (1, ())), False)


class ThereAndBack(unittest.TestCase):
    def test_plain_ones(self):
        self.assertEqual(points_of(DIAMOND, [STRAIGHT, CROSSED]), POINTS)
        self.assertEqual(points_of(DIAMOND, [CROSSED, STRAIGHT]), [(0, 0), (2, 1), (1, 2), (3, 3)])
        self.assertEqual(rows_of(DIAMOND, POINTS), [STRAIGHT, CROSSED])
        self.assertEqual(points_of((1, ()), [(0,), (0,)]), [(0, 0)])
        self.assertEqual(rows_of((1, ()), [(0, 0)]), [(0,), (0,)])
        row = (3, 0, 2, 1)
        self.assertEqual(points_of(loose(4), [row, row[::-1]]), [(1, 2), (3, 0), (2, 1), (0, 3)])
        self.assertEqual(rows_of(loose(4), [(1, 2), (3, 0), (2, 1), (0, 3)]), [row, row[::-1]])

    def test_every_two_rows_that_tell(self):
        for order in small_orders(2) + small_orders(3) + small_orders(4)[::4]:
            for one, other in product(plain_rows(order), repeat=2):
                if plain_tell(order, [one, other]):
                    points = points_of(order, [one, other])
                    self.assertEqual(points, [(one.index(thing), other.index(thing)) for thing in range(order[0])])
                    self.assertEqual([point.__class__ for point in points], [tuple] * order[0])
                    self.assertIs(are_points(points, order), True)
                    self.assertEqual(rows_of(order, points), [one, other])
                else:
                    with self.assertRaises(NoRows):
                        points_of(order, [one, other])

    def test_all_points_give_rows_that_tell(self):
        for many in (1, 2, 3, 4):
            for points in list(all_points(many))[::1 if many < 4 else 5]:
                order = told_order(points)
                rows = rows_of(order, points)
                self.assertEqual([row.__class__ for row in rows], [tuple, tuple])
                self.assertTrue(plain_tell(order, rows))
                self.assertEqual(points_of(order, rows), points)

    def test_no_rows(self):
        wrong = odd_things() + [
            0, [], (STRAIGHT, CROSSED), [STRAIGHT], [STRAIGHT, STRAIGHT], [STRAIGHT, CROSSED, STRAIGHT],
            [STRAIGHT, CROSSED, CROSSED], [STRAIGHT, list(CROSSED)], [STRAIGHT, None], [STRAIGHT, (3, 2, 1, 0)],
            [STRAIGHT, (0, 2, True, 3)], {STRAIGHT: CROSSED}, [[STRAIGHT, CROSSED]], [STRAIGHT, CROSSED[:3]],
            [STRAIGHT, CROSSED + (4,)], STRAIGHT, "0123", POINTS, [STRAIGHT, CROSSED] * 200,
        ]
        for rows in wrong:
            with self.subTest(rows=rows):
                with self.assertRaises(NoRows):
                    points_of(DIAMOND, rows)
        with self.assertRaises(NoRows):
            points_of(chain(4), [STRAIGHT])
        self.assertEqual(points_of(chain(4), [STRAIGHT, STRAIGHT]), [(0, 0), (1, 1), (2, 2), (3, 3)])

    def test_no_points(self):
        wrong = odd_things() + [
            0, [], tuple(POINTS), POINTS[:3], POINTS + [(4, 4)], POINTS[::-1][1:], [(0, 0), (1, 1), (2, 2), (3, 3)],
            POINTS[:3] + [[3, 3]], [(0, 0), (True, 2), (2, 1), (3, 3)], POINTS[:3] + [(3, 2)], POINTS[:3] + [None],
            [POINTS], {0: (0, 0)}, [STRAIGHT, CROSSED], POINTS[:3] + [(3, "3")], POINTS[:3] + [(3, {})],
        ]
        for points in wrong:
            with self.subTest(points=points):
                with self.assertRaises(NoPoints):
                    rows_of(DIAMOND, points)


class Forced(unittest.TestCase):
    def test_plain_ones(self):
        self.assertEqual(forced(DIAMOND, (1, 2)), [])
        self.assertEqual(forced(loose(8), (3, 5)), [])
        self.assertEqual(forced((3, ((0, 1),)), (0, 2)), [(1, 2)])
        self.assertEqual(forced((3, ((0, 1),)), (2, 1)), [(2, 0)])
        self.assertEqual(forced((4, ((0, 1), (2, 3))), (0, 2)), [(0, 3), (1, 2)])
        self.assertEqual(forced(crown(3), (0, 3)), [(0, 1), (0, 2), (4, 3), (5, 3)])

    def test_each_turn_of_many_orders(self):
        for order in orders():
            for turn in plain_turns(order):
                self.assertEqual(forced(order, turn), plain_forced(order, turn), (order, turn))

    def test_no_turns(self):
        wrong = odd_things() + [
            0, [1, 2], (1,), (1, 2, 1), (1, 1), (0, 1), (1, 0), (0, 3), (3, 1), (1, 4), (4, 1), (-1, 2), (True, 2),
            (2, True), ("1", "2"), (1, None), (1, [2]), ({}, 2), [(1, 2)], ((1, 2),), "12", {1: 2}, (1, 10 ** 39),
        ]
        for turn in wrong:
            with self.subTest(turn=turn):
                with self.assertRaises(NoTurns):
                    forced(DIAMOND, turn)
        with self.assertRaises(NoTurns):
            forced((1, ()), (0, 0))


class IsKnot(unittest.TestCase):
    def test_a_knot_of_the_crown(self):
        knot = [(0, 1), (0, 3), (0, 2), (5, 2), (1, 2), (1, 4), (1, 0)]
        self.assertIs(is_knot(knot, crown(3)), True)
        self.assertIs(is_knot(knot[::-1], crown(3)), True)
        for at in range(7):
            self.assertIs(is_knot(knot[:at] + knot[at + 1:], crown(3)), False)
        self.assertIs(is_knot(knot, crown(4)), False)
        self.assertIs(is_knot(knot, loose(6)), False)

    def test_told_knots(self):
        for order in knotted_orders():
            told = points_or_knot(order)[1]
            self.assertIs(is_knot(told, order), True)
            self.assertIs(is_knot(told + told[::-1][1:] + told[1:], order), True)
            self.assertIs(is_knot(told[1:], order), False)
            self.assertIs(is_knot(told[:-1], order), False)
            self.assertIs(is_knot(tuple(told), order), False)
            self.assertIs(is_knot([told[0], told[-1]], order), False)
            self.assertIs(is_knot([list(turn) for turn in told], order), False)
            self.assertIs(is_knot(told + [None], order), False)
            self.assertIs(is_knot(told + told[-1:], order), False)

    def test_a_turn_left_out_or_put_in(self):
        for order in knotted_orders()[:8]:
            told = points_or_knot(order)[1]
            for at in range(len(told)):
                short = told[:at] + told[at + 1:]
                self.assertIs(is_knot(short, order), is_plain_knot(order, short))
                for turn in plain_turns(order):
                    long = told[:at] + [turn] + told[at:]
                    other = told[:at] + [turn] + told[at + 1:]
                    self.assertIs(is_knot(long, order), is_plain_knot(order, long))
                    self.assertIs(is_knot(other, order), is_plain_knot(order, other))

    def test_a_knot_from_within_its_class(self):
        order = crown(3)
        for start in plain_turns(order):
            knot = self.shortest(order, start)
            self.assertIs(is_knot(knot, order), True)
            self.assertIs(is_knot(knot[::-1], order), True)

    def shortest(self, order, start):
        paths = [[start]]
        for path in paths:
            if path[-1] == start[::-1]:
                return path
            for turn in plain_forced(order, path[-1]):
                if not any(turn in other for other in paths):
                    paths.append(path + [turn])
        return []

    def test_no_list_of_few_turns_of_small_orders(self):
        for order in small_orders(3) + small_orders(4)[::15]:
            for size in range(4):
                for some in product(plain_turns(order), repeat=size):
                    self.assertIs(is_knot(list(some), order), False)

    def test_what_is_none(self):
        wrong = odd_things() + [
            0, [], (), [(0, 1)], [(0, 1), (1, 0)], [(0, 3), (3, 0)], [[0, 1], [1, 0]], [(0, 4)], [(0, 0)], {},
            [(0, 1), None, (1, 0)], [(0, 1), (0, True), (1, 0)], "01", [((0, 1), (1, 0))], {(0, 1): (1, 0)},
            [(False, 1), (1, False)], [(0, 1), (0, 2), (1, 0)], [(0, 1), {}], [(0, 1)] * 400, [(10 ** 39, 0)],
        ]
        for thing in wrong:
            self.assertIs(is_knot(thing, crown(3)), False, thing)

    def test_truths_and_lists_within(self):
        order = crown(3)
        told = points_or_knot(order)[1]
        for at, (a, b) in enumerate(told):
            spoilt = [[a, b], (a, b, b), (a,), (a, None), (str(a), b), (a, a), (b, b), None, (a, 6), (-1, b)]
            spoilt += [(bool(a), b)] * (a < 2) + [(a, bool(b))] * (b < 2)
            for turn in spoilt:
                self.assertIs(is_knot(told[:at] + [turn] + told[at + 1:], order), False, (at, turn))


class PointsOrKnot(unittest.TestCase):
    def check(self, order):
        told = points_or_knot(order)
        self.assertIsInstance(told, tuple)
        self.assertEqual(len(told), 2)
        kind, found = told
        self.assertIsInstance(found, list)
        if kind == "points":
            self.assertEqual([point.__class__ for point in found], [tuple] * order[0])
            self.assertEqual(sorted(x for x, y in found), list(range(order[0])))
            self.assertEqual(sorted(y for x, y in found), list(range(order[0])))
            self.assertEqual(told_order(found), order)
            self.assertIs(are_points(found, order), True)
        else:
            self.assertEqual(kind, "knot")
            self.assertTrue(all(turn in plain_turns(order) for turn in found))
            self.assertTrue(is_plain_knot(order, found))
            self.assertIs(is_knot(found, order), True)
        return kind

    def test_each_order_of_few_things_has_points(self):
        for many in range(1, 5):
            for order in small_orders(many):
                self.assertEqual(self.check(order), "points")

    def test_crowns_and_their_like_have_knots(self):
        for order in knotted_orders() + [crown(4)]:
            self.assertEqual(self.check(order), "knot")

    def test_plain_shapes_have_points(self):
        for many in range(1, 9):
            for order in (chain(many), loose(many), fence(many)):
                self.assertEqual(self.check(order), "points")
        self.assertEqual(self.check(crown(2)), "points")

    def test_larger_orders(self):
        for order in some_orders():
            kind = self.check(order)
            if order[0] in (5, 6) and len(plain_rows(order)) < 60:
                due = any(plain_tell(order, some) for some in product(plain_rows(order), repeat=2))
                self.assertEqual(kind == "points", due)

    def test_forced_turns_lie_the_same_way_by_points(self):
        for order in some_orders()[::3]:
            kind, found = points_or_knot(order)
            if kind == "points":
                for a, b in plain_turns(order):
                    if found[a][0] < found[b][0]:
                        for c, d in forced(order, (a, b)):
                            self.assertTrue(found[c][0] < found[d][0] and found[c][1] > found[d][1])


class TwoRows(unittest.TestCase):
    def test_rows_that_tell_or_none(self):
        for order in orders():
            rows = two_rows(order)
            if points_or_knot(order)[0] == "knot":
                self.assertIsNone(rows)
            else:
                self.assertIsInstance(rows, list)
                self.assertEqual([row.__class__ for row in rows], [tuple, tuple])
                self.assertTrue(all(sorted(row) == list(range(order[0])) for row in rows))
                self.assertTrue(plain_tell(order, rows), order)
                self.assertIs(tell(rows, order), True)

    def test_one_row_twice(self):
        self.assertEqual(two_rows((1, ())), [(0,), (0,)])
        self.assertEqual(two_rows(chain(8)), [tuple(range(8))] * 2)
        self.assertEqual(two_rows((3, ((1, 0), (2, 0), (2, 1)))), [(2, 1, 0)] * 2)

    def test_none(self):
        for order in (crown(3), crown(4), cube()):
            self.assertIsNone(two_rows(order))

    def test_one_row(self):
        for many in range(1, 9):
            self.assertIs(one_row(chain(many)), True)
            self.assertIs(one_row(loose(many)), many == 1)
        for order in orders():
            self.assertIs(one_row(order), not any(is_apart(order, a, b) for a, b in combinations(range(order[0]), 2)))
            self.assertIs(one_row(order), len(plain_turns(order)) == 0)


class Kept(unittest.TestCase):
    def test_what_is_handed_in_stays(self):
        rows = [STRAIGHT, CROSSED]
        points = list(POINTS)
        told = (points_of(DIAMOND, rows), rows_of(DIAMOND, points))
        are_points(points, DIAMOND)
        self.assertEqual((rows, points), ([STRAIGHT, CROSSED], POINTS))
        rows.reverse()
        points.reverse()
        self.assertEqual(told, (POINTS, [STRAIGHT, CROSSED]))
        knot = points_or_knot(crown(3))[1]
        before = list(knot)
        self.assertIs(is_knot(knot, crown(3)), True)
        self.assertEqual(knot, before)

    def test_told_lists_are_the_askers_own(self):
        asked = [
            lambda: points_of(DIAMOND, [STRAIGHT, CROSSED]), lambda: rows_of(DIAMOND, POINTS),
            lambda: forced(crown(3), (0, 3)), lambda: forced(DIAMOND, (1, 2)), lambda: points_or_knot(DIAMOND),
            lambda: points_or_knot(crown(3)), lambda: two_rows(DIAMOND), lambda: two_rows(chain(8)),
        ]
        for ask in asked:
            told = ask()
            before = frozen(told)
            for part in lists_within(told):
                part.append("mine")
                part.insert(0, "mine")
            self.assertEqual(frozen(ask()), before)

    def test_the_same_asked_again(self):
        for order in orders()[::9]:
            first = (frozen(points_or_knot(order)), frozen(two_rows(order)))
            self.assertEqual((frozen(points_or_knot(order)), frozen(two_rows(order))), first)


if __name__ == "__main__":
    unittest.main()
