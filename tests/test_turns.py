import unittest
from itertools import combinations, product

from rowsorder.errors import NoTurns
from rowsorder.rows import tell
from rowsorder.turns import is_ring, sharp_turns, together, turns
from tests.samples import (
    chain, crown, cube, frozen, is_plain_ring, knotted_orders, loose, mixed, odd_things, plain_rows, plain_turns,
    small_orders, some_orders, turns_all,
)

DIAMOND = (4, ((0, 1), (0, 2), (0, 3), (1, 3), (2, 3)))
# Things 0 ahead of 1 and 2 ahead of 3, else apart.
TWO_TWOS = (4, ((0, 1), (2, 3)))


def orders():
    return small_orders(4) + some_orders() + knotted_orders()


def is_plain_sharp(order, a, b):
    pairs = order[1]
    things = range(order[0])
    first = all((thing, b) in pairs for thing in things if (thing, a) in pairs)
    return first and all((a, thing) in pairs for thing in things if (b, thing) in pairs)


class Turns(unittest.TestCase):
    def test_plain_ones(self):
        self.assertEqual(turns((1, ())), [])
        self.assertEqual(turns(chain(8)), [])
        self.assertEqual(turns(DIAMOND), [(1, 2), (2, 1)])
        self.assertEqual(turns(loose(3)), [(0, 1), (0, 2), (1, 0), (1, 2), (2, 0), (2, 1)])
        self.assertEqual(len(turns(loose(8))), 56)

    def test_many_orders(self):
        for order in orders():
            self.assertEqual(turns(order), plain_turns(order))

    def test_sharp_ones(self):
        self.assertEqual(sharp_turns((1, ())), [])
        self.assertEqual(sharp_turns(chain(8)), [])
        self.assertEqual(sharp_turns(DIAMOND), [(1, 2), (2, 1)])
        self.assertEqual(sharp_turns(loose(8)), turns(loose(8)))
        self.assertEqual(sharp_turns(TWO_TWOS), [(0, 3), (2, 1)])
        self.assertEqual(sharp_turns((3, ((0, 1),))), [(0, 2), (2, 1)])
        self.assertEqual(sharp_turns(crown(4)), [(0, 4), (1, 5), (2, 6), (3, 7)])
        self.assertEqual(sharp_turns(cube()), [(1, 6), (2, 5), (4, 3)])

    def test_sharp_ones_of_many_orders(self):
        for order in orders():
            self.assertEqual(sharp_turns(order), [(a, b) for a, b in plain_turns(order) if is_plain_sharp(order, a, b)])


class IsRing(unittest.TestCase):
    def test_plain_ones(self):
        self.assertIs(is_ring([(1, 2), (2, 1)], DIAMOND), True)
        self.assertIs(is_ring([(2, 1), (1, 2)], DIAMOND), True)
        self.assertIs(is_ring([(0, 3), (2, 1)], TWO_TWOS), True)
        self.assertIs(is_ring([(0, 1), (2, 0), (1, 2)], loose(3)), True)
        self.assertIs(is_ring([(0, 1), (1, 2), (2, 0)], loose(3)), False)
        self.assertIs(is_ring([(1, 2), (2, 1), (1, 2), (2, 1)], DIAMOND), True)
        self.assertIs(is_ring([(1, 2), (2, 1)] * 200, DIAMOND), True)
        self.assertIs(is_ring([(1, 2), (2, 1), (1, 2)], DIAMOND), False)
        self.assertIs(is_ring([(1, 2)], DIAMOND), False)
        self.assertIs(is_ring([(3, 0), (1, 2)], TWO_TWOS), False)

    def test_every_few_turns_of_small_orders(self):
        for order in small_orders(2) + small_orders(3) + small_orders(4)[::12]:
            for size in range(4):
                for some in product(plain_turns(order), repeat=size):
                    ring = list(some)
                    self.assertIs(is_ring(ring, order), is_plain_ring(order, ring), (ring, order))

    def test_no_row_turns_all_turns_of_a_ring(self):
        for order in small_orders(3) + small_orders(4)[::8]:
            rows = plain_rows(order)
            for size in (1, 2, 3):
                for some in product(plain_turns(order), repeat=size):
                    if is_ring(list(some), order):
                        self.assertFalse(any(turns_all(row, some) for row in rows))

    def test_what_is_none(self):
        wrong = odd_things() + [
            0, [], (), ((1, 2), (2, 1)), [[1, 2], (2, 1)], [(1, 2), [2, 1]], [(1, 2), None], [(1, 2), (2, True)],
            [(True, 2), (2, 1)], [(1, 2), (2, 1), ()], [(1, 2), (2, 1, 1)], [(0, 1), (1, 0)], [(0, 3), (3, 0)],
            [(1, 1)], [(0, 0)], [(1, 2), (2, 1), (1, 1)], [(3, 0)], [(1, 2), (2, 4)], [(1, -1), (-1, 1)], [4, 4],
            {(1, 2): (2, 1)}, "12", [("1", "2"), ("2", "1")], [[(1, 2), (2, 1)]], (1, 2), [1, 2], [(1, 2), {}],
            [(1, [2]), (2, 1)], [(1, 2), "21"], [(1, 10 ** 39), (10 ** 39, 1)],
        ]
        for thing in wrong:
            self.assertIs(is_ring(thing, DIAMOND), False, thing)


class Together(unittest.TestCase):
    def check(self, order, some):
        told = together(order, some)
        self.assertIsInstance(told, tuple)
        self.assertEqual(len(told), 2)
        kind, found = told
        if kind == "row":
            self.assertIsInstance(found, tuple)
            self.assertEqual(sorted(found), list(range(order[0])))
            self.assertTrue(all(found.index(a) < found.index(b) for a, b in order[1]))
            self.assertTrue(turns_all(found, some))
        else:
            self.assertEqual(kind, "ring")
            self.assertIsInstance(found, list)
            self.assertTrue(all(turn in some for turn in found))
            self.assertEqual(len(set(found)), len(found))
            self.assertTrue(is_plain_ring(order, found), (order, some, found))
            self.assertIs(is_ring(found, order), True)
        return kind

    def test_plain_ones(self):
        self.assertEqual(together((1, ()), []), ("row", (0,)))
        self.assertEqual(together(DIAMOND, [(1, 2)]), ("row", (0, 2, 1, 3)))
        self.assertEqual(together(DIAMOND, [(2, 1), (2, 1)]), ("row", (0, 1, 2, 3)))
        self.assertEqual(together(loose(3), [(0, 1), (1, 2)]), ("row", (2, 1, 0)))
        self.assertEqual(self.check(DIAMOND, [(1, 2), (2, 1)]), "ring")
        self.assertEqual(self.check(TWO_TWOS, [(0, 3), (2, 1)]), "ring")
        self.assertEqual(self.check(loose(3), [(0, 1), (1, 2), (2, 0)]), "ring")
        self.assertEqual(self.check(crown(3), [(0, 3), (1, 4)]), "ring")

    def test_of_no_turns_a_row(self):
        for order in orders():
            self.assertEqual(self.check(order, []), "row")

    def test_every_few_turns_of_small_orders(self):
        for order in small_orders(2) + small_orders(3) + small_orders(4)[::6]:
            rows = plain_rows(order)
            for size in range(5):
                for some in combinations(plain_turns(order), size):
                    due = "row" if any(turns_all(row, some) for row in rows) else "ring"
                    self.assertEqual(self.check(order, list(some)), due)
                    self.assertEqual(self.check(order, list(some)[::-1]), due)
                    self.assertEqual(self.check(order, list(some) * 2), due)

    def test_long_rings(self):
        for many in range(2, 9):
            ring = [(at, (at + 1) % many) for at in range(many)]
            for some in (ring, ring[::-1], ring[::2] + ring[1::2]):
                self.assertEqual(self.check(loose(many), some), "ring")
                self.assertEqual(len(together(loose(many), some)[1]), many)
                self.assertEqual(self.check(loose(many), some[1:]), "row")

    def test_larger_orders(self):
        for order in some_orders() + knotted_orders():
            some = plain_turns(order)
            for step in (1, 2, 3, 5, 7, 11):
                for start in (0, 1, 2):
                    self.check(order, some[start::step])
                    self.check(order, some[start::step][::-1])

    def test_all_that_a_row_turns(self):
        for order in (loose(5), crown(3), cube(), mixed(7, 3), mixed(8, 5)):
            for row in plain_rows(order)[::29]:
                some = [(a, b) for a, b in plain_turns(order) if row.index(b) < row.index(a)]
                self.assertEqual(together(order, some), ("row", row))

    def test_four_hundred_turns(self):
        some = [(a, b) for a, b in plain_turns(loose(8)) if a > b]
        self.assertEqual(together(loose(8), (some * 15)[:400]), ("row", (0, 1, 2, 3, 4, 5, 6, 7)))
        self.assertEqual(self.check(loose(8), (some * 15)[:399] + [(0, 7)]), "ring")

    def test_no_turns(self):
        wrong = odd_things() + [
            0, (), ((1, 2),), (1, 2), {}, {(1, 2): True}, "12", [[1, 2]], [(1, 2), None], [(1, 2), (0, 1)], [(1, 1)],
            [(0, 3)], [(3, 0)], [(1, 2, 1)], [(1,)], [()], [(1, 4)], [(-1, 2)], [(True, 2)], [(2, True)], [("1", "2")],
            [(1, 2), (2, 1), (0, 2)], [(1, [2])], [({}, 2)], [1, 2], [(1, 2), [2, 1]], [[(1, 2)]], [(1, 10 ** 39)],
        ]
        for some in wrong:
            with self.subTest(some=some):
                with self.assertRaises(NoTurns):
                    together(DIAMOND, some)
        with self.assertRaises(NoTurns):
            together((1, ()), [(0, 0)])


class So(unittest.TestCase):
    def test_two_turns_are_not_together_just_where_both_lead_on(self):
        for order in small_orders(3) + small_orders(4)[::3] + [crown(3)]:
            held = order[1]
            rows = plain_rows(order)
            for (a, b), (c, d) in product(plain_turns(order), repeat=2):
                rings = (a == d or (a, d) in held) and (c == b or (c, b) in held)
                kind = together(order, [(a, b), (c, d)])[0]
                self.assertEqual(kind, "ring" if rings else "row")
                self.assertEqual(any(turns_all(row, [(a, b), (c, d)]) for row in rows), not rings)

    def test_rows_tell_just_where_each_sharp_turn_is_turned(self):
        for order in small_orders(3) + small_orders(4)[::5] + [crown(3)]:
            rows = plain_rows(order)[:24]
            for size in (1, 2, 3):
                for some in list(combinations(rows, size))[::1 if order[0] < 6 else 7]:
                    due = all(any(turns_all(row, [turn]) for row in some) for turn in sharp_turns(order))
                    self.assertIs(tell(list(some), order), due)


class Kept(unittest.TestCase):
    def test_what_is_handed_in_stays(self):
        some = [(1, 2), (2, 1), (1, 2)]
        told = together(DIAMOND, some)
        self.assertIs(is_ring(some, DIAMOND), False)
        self.assertEqual(some, [(1, 2), (2, 1), (1, 2)])
        before = frozen(told)
        some.append((0, 1))
        self.assertEqual(frozen(told), before)

    def test_a_ring_told_is_not_the_list_handed_in(self):
        some = [(1, 2), (2, 1)]
        told = together(DIAMOND, some)
        told[1].append("mine")
        self.assertEqual(some, [(1, 2), (2, 1)])
        self.assertEqual(self.kind_of_ring(together(DIAMOND, some)), {(1, 2), (2, 1)})

    def kind_of_ring(self, told):
        self.assertEqual(told[0], "ring")
        return set(told[1])

    def test_refused_lists_stay(self):
        some = [(1, 2), None, [2, 1]]
        with self.assertRaises(NoTurns):
            together(DIAMOND, some)
        self.assertEqual(some, [(1, 2), None, [2, 1]])

    def test_told_lists_are_the_askers_own(self):
        for order in (DIAMOND, crown(3), (1, ()), loose(8)):
            for ask in (turns, sharp_turns):
                told = ask(order)
                before = list(told)
                told.append("mine")
                told.insert(0, "mine")
                self.assertEqual(ask(order), before)

    def test_the_same_asked_again(self):
        for order in orders()[::9]:
            some = plain_turns(order)
            first = frozen(together(order, some))
            self.assertEqual(frozen(together(order, list(some))), first)


if __name__ == "__main__":
    unittest.main()
