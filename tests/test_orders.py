import unittest

from rowsorder.errors import NoMany, NoPairs, NoThing, Ring
from rowsorder.orders import ahead, apart, behind, is_order, next_pairs, order_of, turned
from tests.samples import (
    big_orders, chain, cube, is_apart, is_plain_order, loose, odd_things, plain_closed, small_orders, some_orders,
    subsets,
)

DIAMOND = (4, ((0, 1), (0, 2), (0, 3), (1, 3), (2, 3)))
NO_MANY = odd_things() + [0, 10, 10 ** 39]


class IsOrder(unittest.TestCase):
    def test_every_set_of_pairs_of_few_things(self):
        for many, count in ((1, 1), (2, 3), (3, 19)):
            pairs = [(a, b) for a in range(many) for b in range(many)]
            told = [chosen for chosen in subsets(pairs) if is_order((many, chosen))]
            self.assertEqual(told, [chosen for chosen in subsets(pairs) if is_plain_order(chosen)])
            self.assertEqual(len(told), count)

    def test_every_set_of_unlike_pairs_of_four_things(self):
        pairs = [(a, b) for a in range(4) for b in range(4) if a != b]
        told = [(4, chosen) for chosen in subsets(pairs) if is_order((4, chosen))]
        self.assertEqual(told, small_orders(4))
        self.assertEqual(len(told), 219)

    def test_orders_of_more_things(self):
        for order in big_orders():
            self.assertIs(is_order(order), True, order)

    def test_one_to_eight_things(self):
        for many in range(1, 9):
            self.assertIs(is_order((many, ())), True)
        for many in (0, 9, -1, 10 ** 39):
            self.assertIs(is_order((many, ())), False)
            self.assertIs(is_order((many, ((0, 1),))), False)

    def test_things_of_whatever_kind(self):
        for thing in odd_things():
            self.assertIs(is_order(thing), False, thing)

    def test_a_pair_left_out(self):
        self.assertIs(is_order((3, ((0, 1), (1, 2)))), False)
        many, pairs = chain(8)
        for at in range(len(pairs)):
            rest = pairs[:at] + pairs[at + 1:]
            self.assertIs(is_order((many, rest)), is_plain_order(rest))

    def test_a_pair_spoilt(self):
        for many, pairs in (chain(2), chain(5), DIAMOND, cube(), (8, ((7, 0),))):
            for at, (a, b) in enumerate(pairs):
                head, tail = pairs[:at], pairs[at + 1:]
                spoilt = [
                    head + ((a, b), (a, b)) + tail,
                    head + ([a, b],) + tail,
                    head + ((a, b, b),) + tail,
                    head + ((a,),) + tail,
                    head + (a, b) + tail,
                    head + (None,) + tail,
                    head + ((a, many),) + tail,
                    head + ((a, str(b)),) + tail,
                    head + ((a, None),) + tail,
                    tuple(sorted(pairs + ((b, a),))),
                    tuple(sorted(pairs + ((a, a),))),
                    tuple(sorted(pairs + ((-1, a),))),
                    tuple(sorted(pairs + ((a, many),))),
                    list(pairs),
                ]
                if tail:
                    spoilt.append(head + tail + ((a, b),))
                for wrong in spoilt:
                    self.assertIs(is_order((many, wrong)), False, wrong)

    def test_truths_are_no_whole_numbers(self):
        self.assertIs(is_order((True, ())), False)
        self.assertIs(is_order((2, ((0, True),))), False)
        self.assertIs(is_order((2, ((False, 1),))), False)
        self.assertIs(is_order((2, ((0, 1),))), True)

    def test_lists_are_no_tuples(self):
        self.assertIs(is_order([2, ((0, 1),)]), False)
        self.assertIs(is_order((2, [(0, 1)])), False)
        self.assertIs(is_order((2, ([0, 1],))), False)
        self.assertIs(is_order((2, ((0, 1),), ())), False)


class OrderOf(unittest.TestCase):
    def test_pairs_are_closed(self):
        self.assertEqual(order_of(4, [(0, 2), (1, 2), (2, 3)]), (4, ((0, 2), (0, 3), (1, 2), (1, 3), (2, 3))))
        self.assertEqual(order_of(1, []), (1, ()))
        self.assertEqual(order_of(8, []), (8, ()))
        self.assertEqual(order_of(8, [(at, at + 1) for at in range(7)]), chain(8))
        self.assertEqual(order_of(3, [(2, 1), (1, 0)]), (3, ((1, 0), (2, 0), (2, 1))))

    def test_in_whatever_order_and_twice(self):
        for order in some_orders():
            pairs = list(order[1])
            self.assertEqual(order_of(order[0], pairs), order)
            self.assertEqual(order_of(order[0], pairs[::-1]), order)
            self.assertEqual(order_of(order[0], pairs + pairs[::-1] + pairs), order)

    def test_a_long_list(self):
        self.assertEqual(order_of(8, [(at, at + 1) for at in range(7)] * 57), chain(8))

    def test_every_few_pairs_of_four_things(self):
        pairs = [(a, b) for a in range(4) for b in range(4)]
        for chosen in subsets(pairs):
            if len(chosen) > 4:
                break
            closed = plain_closed(chosen)
            if is_plain_order(closed):
                self.assertEqual(order_of(4, list(chosen)), (4, closed))
            else:
                with self.assertRaises(Ring):
                    order_of(4, list(chosen))

    def test_rings(self):
        ring = [(at, (at + 1) % 8) for at in range(8)]
        for many, pairs in ((1, [(0, 0)]), (2, [(0, 1), (1, 0)]), (8, [(7, 7)]), (8, ring), (8, ring[::-1])):
            with self.assertRaises(Ring):
                order_of(many, pairs)

    def test_no_many_goes_first(self):
        for many in NO_MANY:
            for pairs in ([], [(0, 0)], None, [(0, 1)], 5, [None]):
                with self.assertRaises(NoMany):
                    order_of(many, pairs)

    def test_no_pairs(self):
        wrong = odd_things() + [
            0, (), ((0, 1),), "01", {}, {(0, 1): True}, [(0, 2)], [(2, 0)], [(-1, 0)], [(0, 1), None], [[0, 1]],
            [(0,)], [(0, 1, 1)], [()], [0, 1], [(0, True)], [(False, 1)], [("0", "1")], [((0, 1), 1)],
        ]
        for pairs in wrong:
            with self.subTest(pairs=pairs):
                with self.assertRaises(NoPairs):
                    order_of(2, pairs)

    def test_no_pairs_goes_ahead_of_ring(self):
        for pairs in ([(0, 0), None], [(0, 1), (1, 0), (0, 2)], [(1, 1), [0, 1]], ((0, 0),)):
            with self.assertRaises(NoPairs):
                order_of(2, pairs)


class Looks(unittest.TestCase):
    def test_a_diamond(self):
        self.assertEqual([ahead(DIAMOND, thing) for thing in range(4)], [[], [0], [0], [0, 1, 2]])
        self.assertEqual([behind(DIAMOND, thing) for thing in range(4)], [[1, 2, 3], [3], [3], []])
        self.assertEqual([apart(DIAMOND, thing) for thing in range(4)], [[], [2], [1], []])

    def test_one_thing_and_eight(self):
        self.assertEqual((ahead((1, ()), 0), behind((1, ()), 0), apart((1, ()), 0)), ([], [], []))
        self.assertEqual(apart(loose(8), 3), [0, 1, 2, 4, 5, 6, 7])
        self.assertEqual(ahead(chain(8), 7), [0, 1, 2, 3, 4, 5, 6])
        self.assertEqual(behind(chain(8), 5), [6, 7])

    def test_each_thing_of_many_orders(self):
        for order in some_orders():
            things = range(order[0])
            for thing in things:
                self.assertEqual(ahead(order, thing), [other for other in things if (other, thing) in order[1]])
                self.assertEqual(behind(order, thing), [other for other in things if (thing, other) in order[1]])
                self.assertEqual(apart(order, thing), [other for other in things if is_apart(order, thing, other)])

    def test_no_thing(self):
        for look in (ahead, behind, apart):
            for thing in odd_things() + [4, 5, -4, 10 ** 39]:
                with self.assertRaises(NoThing):
                    look(DIAMOND, thing)
            with self.assertRaises(NoThing):
                look((1, ()), 1)
            with self.assertRaises(NoThing):
                look(loose(8), 8)


class NextPairs(unittest.TestCase):
    def test_plain_ones(self):
        self.assertEqual(next_pairs(DIAMOND), [(0, 1), (0, 2), (1, 3), (2, 3)])
        self.assertEqual(next_pairs(chain(8)), [(at, at + 1) for at in range(7)])
        self.assertEqual(next_pairs(loose(8)), [])
        self.assertEqual(next_pairs((1, ())), [])
        self.assertEqual(len(next_pairs(cube())), 12)

    def test_many_orders(self):
        for order in some_orders():
            held = set(order[1])
            jumps = {(a, d) for a, b in held for c, d in held if b == c}
            self.assertEqual(next_pairs(order), sorted(held - jumps))

    def test_they_close_to_the_order(self):
        for order in some_orders():
            self.assertEqual(order_of(order[0], next_pairs(order)), order)


class Turned(unittest.TestCase):
    def test_plain_ones(self):
        self.assertEqual(turned((4, ((0, 2), (0, 3), (1, 2), (1, 3), (2, 3)))),
                         (4, ((2, 0), (2, 1), (3, 0), (3, 1), (3, 2))))
        self.assertEqual(turned((1, ())), (1, ()))

    def test_many_orders(self):
        for order in some_orders():
            other = turned(order)
            self.assertTrue(is_order(other))
            self.assertEqual(other, (order[0], tuple(sorted((b, a) for a, b in order[1]))))
            self.assertEqual(turned(other), order)


class Kept(unittest.TestCase):
    def test_what_is_handed_in_stays(self):
        pairs = [(2, 3), (0, 2), (2, 3), (1, 2)]
        before = list(pairs)
        order = order_of(4, pairs)
        self.assertEqual(pairs, before)
        pairs.append((3, 0))
        self.assertEqual(order, (4, ((0, 2), (0, 3), (1, 2), (1, 3), (2, 3))))

    def test_refused_lists_stay(self):
        for pairs in ([(1, 0), (0, 1)], [(1, 0), None, [0, 1]]):
            before = list(pairs)
            with self.assertRaises((Ring, NoPairs)):
                order_of(2, pairs)
            self.assertEqual(pairs, before)

    def test_told_lists_are_the_askers_own(self):
        asked = [
            lambda: ahead(DIAMOND, 3), lambda: behind(DIAMOND, 0), lambda: apart(DIAMOND, 1),
            lambda: next_pairs(DIAMOND), lambda: ahead(DIAMOND, 0), lambda: next_pairs((1, ())),
        ]
        for ask in asked:
            first = ask()
            before = list(first)
            first.append("mine")
            first.insert(0, "mine")
            self.assertEqual(ask(), before)


if __name__ == "__main__":
    unittest.main()
