import unittest
from itertools import combinations, product

from rowsorder.bounds import all_orders, bounds, first_list, lists_many
from rowsorder.errors import NoMany, NoNumber, NoOrder, TooMany
from rowsorder.fewest import fewest, fewest_rows
from rowsorder.orders import is_order, turned
from rowsorder.rows import tell
from tests.samples import (
    big_orders, chain, crown, cube, fence, frozen, is_apart, knotted_orders, lists_within, odd_things, plain_rows,
    plain_tell, plain_turns, small_orders, some_orders, turns_all,
)

DIAMOND = (4, ((0, 1), (0, 2), (0, 3), (1, 3), (2, 3)))


def few_orders():
    return [order for many in range(1, 5) for order in small_orders(many)]


def plain_apart(order):
    """How many things are apart together at most."""
    things = range(order[0])
    return max(size for size in range(1, order[0] + 1)
               if any(all(is_apart(order, a, b) for a, b in combinations(some, 2))
                      for some in combinations(things, size)))


def plain_cross(order):
    """How many turns, no two of which a row turns together, there are at most: all rows are asked."""
    rows = plain_rows(order)
    turns = plain_turns(order)
    met = {two for two in combinations(turns, 2) if any(turns_all(row, two) for row in rows)}
    size = 0
    while any(not met.intersection(combinations(some, 2)) for some in combinations(turns, size + 1)):
        size += 1
    return size


def telling_lists(order, count):
    return [list(some) for some in product(plain_rows(order), repeat=count) if plain_tell(order, some)]


class Bounds(unittest.TestCase):
    def test_by_hand(self):
        self.assertEqual(bounds((1, ())), (1, 1))
        self.assertEqual(bounds((2, ())), (2, 2))
        self.assertEqual(bounds((2, ((1, 0),))), (1, 1))
        self.assertEqual(bounds((3, ())), (2, 3))
        self.assertEqual(bounds((3, ((0, 1),))), (2, 2))
        self.assertEqual(bounds(chain(3)), (1, 1))
        self.assertEqual(bounds((4, ())), (2, 2))
        self.assertEqual(bounds(DIAMOND), (2, 2))
        self.assertEqual(bounds(chain(4)), (1, 1))
        self.assertEqual(bounds((5, ())), (2, 2))
        self.assertEqual(bounds((6, ())), (2, 3))
        self.assertEqual(bounds((7, ())), (2, 3))
        self.assertEqual(bounds((8, ())), (2, 4))
        self.assertEqual(bounds(chain(8)), (1, 1))
        self.assertEqual([bounds(crown(half)) for half in (2, 3, 4)], [(2, 2), (3, 3), (4, 4)])
        self.assertEqual(bounds(cube()), (3, 3))
        self.assertEqual(bounds(fence(7)), (2, 3))
        self.assertEqual(bounds(fence(8)), (2, 4))

    def test_orders_of_few_things(self):
        for order in few_orders()[::3]:
            high = plain_apart(order)
            due = (max(1, plain_cross(order)), min(high, 2) if order[0] == 4 else high)
            told = bounds(order)
            self.assertEqual(told, due, order)
            self.assertIs(told.__class__, tuple)
            self.assertEqual([number.__class__ for number in told], [int, int])

    def test_the_higher_one(self):
        for order in some_orders() + knotted_orders():
            high = plain_apart(order)
            self.assertEqual(bounds(order)[1], high if order[0] < 4 else min(high, order[0] // 2), order)

    def test_the_fewest_lie_between(self):
        for order in few_orders() + big_orders() + knotted_orders():
            low, high = bounds(order)
            self.assertLessEqual(low, fewest(order), order)
            self.assertLessEqual(fewest(order), high, order)

    def test_no_order(self):
        for thing in odd_things() + [0, [], (2, ((0, 1), (1, 0)))]:
            with self.assertRaises(NoOrder):
                bounds(thing)


class AllOrders(unittest.TestCase):
    def test_all_rising(self):
        for many, due in ((1, 1), (2, 3), (3, 19), (4, 219)):
            told = all_orders(many)
            self.assertIsInstance(told, list)
            self.assertEqual(len(told), due)
            self.assertEqual(told, sorted(told))
            self.assertEqual(len(set(told)), due)
            self.assertTrue(all(is_order(order) is True and order[0] == many for order in told))
            self.assertEqual(frozen(told), frozen(sorted(small_orders(many))))

    def test_by_hand(self):
        self.assertEqual(all_orders(1), [(1, ())])
        self.assertEqual(all_orders(2), [(2, ()), (2, ((0, 1),)), (2, ((1, 0),))])
        first = [
            (), ((0, 1),), ((0, 1), (0, 2)), ((0, 1), (0, 2), (1, 2)), ((0, 1), (0, 2), (2, 1)),
            ((0, 1), (2, 0), (2, 1)), ((0, 1), (2, 1)), ((0, 2),),
        ]
        self.assertEqual(all_orders(3)[:8], [(3, pairs) for pairs in first])

    def test_no_many(self):
        for many in odd_things() + [0, 5, 6, 8, -4, (1,), [1], [4], {4: 4}, 10 ** 39, -(10 ** 39)]:
            with self.subTest(many=many):
                with self.assertRaises(NoMany):
                    all_orders(many)


class ListsMany(unittest.TestCase):
    def test_by_hand(self):
        self.assertEqual([lists_many((1, ()), count) for count in (1, 2, 3, 4)], [1, 1, 1, 1])
        self.assertEqual([lists_many(chain(4), count) for count in (1, 2, 3, 4)], [1, 1, 1, 1])
        self.assertEqual([lists_many((2, ()), count) for count in (1, 2, 3, 4)], [0, 2, 6, 14])
        self.assertEqual([lists_many(DIAMOND, count) for count in (1, 2, 3, 4)], [0, 2, 6, 14])
        self.assertEqual([lists_many((3, ()), count) for count in (1, 2)], [0, 6])

    def test_beside_going_through_all_lists(self):
        for order in small_orders(1) + small_orders(2) + small_orders(3) + small_orders(4)[::6]:
            rows = len(plain_rows(order))
            for count in (1, 2, 3, 4):
                if rows ** count < 5000:
                    told = lists_many(order, count)
                    self.assertEqual(told, len(telling_lists(order, count)), (order, count))
                    self.assertIs(told.__class__, int)

    def test_four_things_without_pairs(self):
        self.assertEqual(lists_many((4, ()), 1), 0)
        self.assertEqual(lists_many((4, ()), 2), 24)
        self.assertEqual(lists_many((4, ()), 3), len(telling_lists((4, ()), 3)))

    def test_each_list_tells_one_order(self):
        # Whatever rows stand in a list, they tell just one order: so all lists are counted, each once.
        for many, every in ((1, 1), (2, 2), (3, 6), (4, 24)):
            for count in (1, 2, 3, 4):
                self.assertEqual(sum(lists_many(order, count) for order in small_orders(many)), every ** count)

    def test_no_number(self):
        for order in ((1, ()), (2, ()), DIAMOND, (4, ())):
            for count in odd_things() + [0, 5, 8, -2, (2,), [2], {2: 2}, 10 ** 39, -(10 ** 39)]:
                with self.subTest(count=count):
                    with self.assertRaises(NoNumber):
                        lists_many(order, count)

    def test_too_many_goes_ahead_of_no_number(self):
        for order in big_orders() + knotted_orders():
            for count in [1, 2, 3, 4] + odd_things()[::4]:
                with self.assertRaises(TooMany):
                    lists_many(order, count)

    def test_no_order_goes_ahead_of_all(self):
        for thing in odd_things() + [0, [], (5, ((0, 1), (1, 2))), (4, ((0, 1), (1, 0)))]:
            for count in (1, 0, None, True, "1", [2]):
                with self.assertRaises(NoOrder):
                    lists_many(thing, count)


class FirstList(unittest.TestCase):
    def test_by_hand(self):
        self.assertEqual(first_list((1, ())), [(0,)])
        self.assertEqual(first_list((2, ())), [(0, 1), (1, 0)])
        self.assertEqual(first_list((2, ((1, 0),))), [(1, 0)])
        self.assertEqual(first_list((3, ())), [(0, 1, 2), (2, 1, 0)])
        self.assertEqual(first_list(DIAMOND), [(0, 1, 2, 3), (0, 2, 1, 3)])
        self.assertEqual(first_list(crown(2)), [(0, 3, 1, 2), (1, 2, 0, 3)])
        self.assertEqual(first_list(chain(4)), [(0, 1, 2, 3)])

    def test_beside_going_through_all_lists(self):
        for order in few_orders():
            rows = plain_rows(order)
            count = 1
            found = None
            while found is None:
                found = next((list(some) for some in product(rows, repeat=count) if plain_tell(order, some)), None)
                count += 1
            told = first_list(order)
            self.assertEqual(frozen(told), frozen(found), order)
            self.assertEqual(len(told), fewest(order))
            self.assertIs(tell(told, order), True)

    def test_the_first_row_of_all_need_not_do(self):
        self.assertNotEqual(first_list(crown(2))[0], plain_rows(crown(2))[0])

    def test_too_many(self):
        for order in big_orders() + knotted_orders():
            with self.assertRaises(TooMany):
                first_list(order)

    def test_no_order(self):
        for thing in odd_things() + [0, [], (5, ((0, 1), (1, 2))), (4, ((0, 1), (1, 0)))]:
            with self.assertRaises(NoOrder):
                first_list(thing)


class Concluded(unittest.TestCase):
    def test_lists_just_from_the_fewest_on(self):
        for order in few_orders():
            counts = [lists_many(order, count) for count in (1, 2, 3, 4)]
            self.assertEqual([told > 0 for told in counts], [count >= fewest(order) for count in (1, 2, 3, 4)], order)
            self.assertEqual(counts, sorted(counts), order)

    def test_turned_about_as_many(self):
        for order in few_orders()[::2]:
            for count in (1, 2, 3, 4):
                self.assertEqual(lists_many(turned(order), count), lists_many(order, count), order)


class Kept(unittest.TestCase):
    def test_told_lists_are_the_askers_own(self):
        asked = [
            lambda: all_orders(1), lambda: all_orders(4), lambda: first_list(DIAMOND), lambda: first_list(chain(3)),
        ]
        for ask in asked:
            told = ask()
            before = frozen(told)
            self.assertEqual(len(lists_within(told)), 1)
            told.append("mine")
            told[0] = "mine"
            self.assertEqual(frozen(ask()), before)

    def test_the_same_asked_again(self):
        for order in few_orders()[::17]:
            first = frozen([bounds(order), lists_many(order, 3), first_list(order), fewest_rows(order)])
            again = frozen([bounds(order), lists_many(order, 3), first_list(order), fewest_rows(order)])
            self.assertEqual(again, first)
        self.assertEqual(all_orders(3), all_orders(3))


if __name__ == "__main__":
    unittest.main()
