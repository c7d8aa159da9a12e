import unittest
from itertools import product

from rowsorder.builds import (
    behind_of, beside_of, replaced, rows_behind, rows_beside, rows_replaced, without,
)
from rowsorder.errors import Bare, NoOrder, NoRows, NoThing, TooMany
from rowsorder.fewest import fewest, fewest_rows
from rowsorder.orders import is_order, turned
from rowsorder.rows import tell
from tests.samples import (
    big_orders, chain, crown, cube, fence, frozen, knotted_orders, lists_within, loose, mixed, odd_things, plain_rows,
    plain_tell, small_orders, some_orders,
)

DIAMOND = (4, ((0, 1), (0, 2), (0, 3), (1, 3), (2, 3)))
VEE = (3, ((0, 1), (0, 2)))


def parts():
    """Orders of one to seven things to be put together."""
    made = small_orders(1) + small_orders(2) + small_orders(3)[::3] + small_orders(4)[::31]
    return made + [fence(5), mixed(5, 3), crown(3), mixed(6, 5), chain(7), mixed(7, 1)]


def couples():
    return [(one, other) for one, other in product(parts(), repeat=2) if one[0] + other[0] <= 8]


def plain_behind(one, other):
    shift = one[0]
    pairs = list(one[1]) + [(a + shift, b + shift) for a, b in other[1]]
    pairs += [(a, shift + b) for a in range(one[0]) for b in range(other[0])]
    return (shift + other[0], tuple(sorted(pairs)))


def plain_beside(one, other):
    shift = one[0]
    return (shift + other[0], tuple(sorted(list(one[1]) + [(a + shift, b + shift) for a, b in other[1]])))


def plain_replaced(order, thing, other):
    """Each thing of the new order is told by what it was: an old thing, or a new one in the old one's place."""
    names = [(old, None) for old in range(thing)]
    names += [(thing, new) for new in range(other[0])]
    names += [(old, None) for old in range(thing + 1, order[0])]
    pairs = []
    for a, (old, new) in enumerate(names):
        for b, (old_other, new_other) in enumerate(names):
            if old == old_other == thing:
                if (new, new_other) in other[1]:
                    pairs.append((a, b))
            elif (old, old_other) in order[1]:
                pairs.append((a, b))
    return (len(names), tuple(pairs))


def plain_without(order, thing):
    names = [old for old in range(order[0]) if old != thing]
    held = [(a, b) for a in range(len(names)) for b in range(len(names)) if (names[a], names[b]) in order[1]]
    return (len(names), tuple(held))


def replacings():
    for order, other in product(parts(), repeat=2):
        if order[0] + other[0] <= 9:
            for thing in sorted({0, order[0] // 2, order[0] - 1}):
                yield order, thing, other


def lists_for(order):
    """Lists of rows that tell an order: the fewest, with one of them twice, the fewest turned round, and more."""
    few = fewest_rows(order)
    made = [few, few + few[:1], few[::-1], few + few]
    if order[0] < 5:
        made.append(plain_rows(order))
    return made


def no_rows(order):
    """Things that don't tell an order of two things or more that one row alone doesn't tell."""
    few = fewest_rows(order)
    wrong = odd_things() + [[], (), few[:-1], tuple(few), [list(row) for row in few], few + [None], few + [()]]
    wrong += [few + [few[0][:-1]], few + [few[0] + (order[0],)], few[0], [few], few + [few], {0: few[0]}, "01"]
    wrong += [[tuple(bool(one) if one < 2 else one for one in row) for row in few]]
    wrong += [[few[0]] * 400, [tuple(one + 1 for one in row) for row in few]]
    return wrong


class Joined(unittest.TestCase):
    def test_behind_by_hand(self):
        self.assertEqual(behind_of((1, ()), (1, ())), (2, ((0, 1),)))
        self.assertEqual(behind_of((2, ()), (1, ())), (3, ((0, 2), (1, 2))))
        self.assertEqual(behind_of((1, ()), (2, ())), (3, ((0, 1), (0, 2))))
        down = (2, ((1, 0),))
        self.assertEqual(behind_of(down, down), (4, ((0, 2), (0, 3), (1, 0), (1, 2), (1, 3), (3, 2))))
        self.assertEqual(behind_of(chain(3), chain(5)), chain(8))

    def test_beside_by_hand(self):
        self.assertEqual(beside_of((1, ()), (1, ())), (2, ()))
        self.assertEqual(beside_of((2, ((0, 1),)), (2, ((1, 0),))), (4, ((0, 1), (3, 2))))
        self.assertEqual(beside_of((1, ()), VEE), (4, ((1, 2), (1, 3))))
        self.assertEqual(beside_of(VEE, (1, ())), (4, ((0, 1), (0, 2))))
        self.assertEqual(beside_of(loose(3), loose(5)), loose(8))

    def test_each_couple(self):
        for one, other in couples():
            for ask, plain in ((behind_of, plain_behind), (beside_of, plain_beside)):
                told = ask(one, other)
                self.assertEqual(frozen(told), frozen(plain(one, other)), (one, other))
                self.assertIs(is_order(told), True)

    def test_eight_things_and_nine(self):
        for many in range(1, 8):
            self.assertEqual(behind_of(chain(many), chain(8 - many)), chain(8))
            self.assertEqual(beside_of(loose(many), loose(8 - many)), loose(8))
        for many in range(1, 9):
            for more in range(9 - many, 9):
                for ask in (behind_of, beside_of):
                    with self.assertRaises(TooMany):
                        ask(fence(many), fence(more))


class Replaced(unittest.TestCase):
    def test_by_hand(self):
        self.assertEqual(replaced((1, ()), 0, (1, ())), (1, ()))
        self.assertEqual(replaced((1, ()), 0, DIAMOND), DIAMOND)
        self.assertEqual(replaced((2, ((0, 1),)), 0, (2, ())), (3, ((0, 2), (1, 2))))
        self.assertEqual(replaced((2, ((0, 1),)), 1, (2, ())), (3, ((0, 1), (0, 2))))
        self.assertEqual(replaced((3, ((2, 0),)), 1, (2, ((1, 0),))), (4, ((2, 1), (3, 0))))
        self.assertEqual(replaced(VEE, 0, (2, ((1, 0),))), (4, ((0, 2), (0, 3), (1, 0), (1, 2), (1, 3))))
        self.assertEqual(replaced(VEE, 1, (2, ((1, 0),))), (4, ((0, 1), (0, 2), (0, 3), (2, 1))))
        self.assertEqual(replaced(VEE, 2, (2, ((1, 0),))), (4, ((0, 1), (0, 2), (0, 3), (3, 2))))
        self.assertEqual(replaced(chain(4), 2, chain(5)), chain(8))
        self.assertEqual(replaced(loose(4), 3, loose(5)), loose(8))

    def test_each_one(self):
        for order, thing, other in replacings():
            told = replaced(order, thing, other)
            self.assertEqual(frozen(told), frozen(plain_replaced(order, thing, other)), (order, thing, other))
            self.assertIs(is_order(told), True)

    def test_by_one_thing_nothing_changes(self):
        for order in some_orders():
            for thing in range(order[0]):
                self.assertEqual(replaced(order, thing, (1, ())), order)

    def test_eight_things_and_nine(self):
        for many in range(1, 9):
            for thing in range(many):
                self.assertEqual(replaced(chain(many), thing, chain(9 - many)), chain(8))
                for more in range(10 - many, 9):
                    with self.assertRaises(TooMany):
                        replaced(chain(many), thing, fence(more))

    def test_no_thing(self):
        for order in ((1, ()), VEE, DIAMOND, cube()):
            wrong = odd_things() + [order[0], order[0] + 1, -1, -order[0], (0,), [0], {0: 0}, "0", 10 ** 39]
            for thing in wrong:
                for other in ((1, ()), (2, ()), cube()):
                    with self.subTest(order=order, thing=thing):
                        with self.assertRaises(NoThing):
                            replaced(order, thing, other)


class Without(unittest.TestCase):
    def test_by_hand(self):
        self.assertEqual(without((2, ((1, 0),)), 0), (1, ()))
        self.assertEqual(without((2, ((1, 0),)), 1), (1, ()))
        self.assertEqual(without(VEE, 0), (2, ()))
        self.assertEqual(without(VEE, 1), (2, ((0, 1),)))
        self.assertEqual(without(DIAMOND, 0), (3, ((0, 2), (1, 2))))
        self.assertEqual(without(DIAMOND, 1), chain(3))
        self.assertEqual(without(DIAMOND, 3), VEE)

    def test_each_thing(self):
        for order in some_orders() + small_orders(4) + knotted_orders():
            for thing in range(order[0]):
                if order[0] > 1:
                    told = without(order, thing)
                    self.assertEqual(frozen(told), frozen(plain_without(order, thing)), (order, thing))
                    self.assertIs(is_order(told), True)

    def test_bare(self):
        with self.assertRaises(Bare):
            without((1, ()), 0)

    def test_no_thing(self):
        for order in ((1, ()), VEE, DIAMOND, cube()):
            wrong = odd_things() + [order[0], order[0] + 1, -1, -order[0], (0,), [0], {0: 0}, "0", 10 ** 39]
            for thing in wrong:
                with self.subTest(order=order, thing=thing):
                    with self.assertRaises(NoThing):
                        without(order, thing)


class RowsTell(unittest.TestCase):
    def hold(self, made, rows, count):
        self.assertIsInstance(rows, list)
        self.assertEqual(len(rows), count)
        for row in rows:
            self.assertIs(row.__class__, tuple)
            self.assertEqual(sorted(row), list(range(made[0])))
        self.assertTrue(plain_tell(made, rows), (made, rows))
        self.assertIs(tell(rows, made), True)

    def test_behind_and_beside(self):
        for one, other in couples()[::2]:
            for rows, others in product(lists_for(one), lists_for(other)):
                count = max(len(rows), len(others))
                self.hold(plain_behind(one, other), rows_behind(one, other, rows, others), count)
                self.hold(plain_beside(one, other), rows_beside(one, other, rows, others), max(count, 2))

    def test_replaced(self):
        for order, thing, other in list(replacings())[::4]:
            for rows, others in product(lists_for(order)[:2], lists_for(other)):
                told = rows_replaced(order, thing, other, rows, others)
                self.hold(plain_replaced(order, thing, other), told, max(len(rows), len(others)))

    def test_one_row_each(self):
        self.assertEqual(rows_behind((1, ()), (1, ()), [(0,)], [(0,)]), [(0, 1)])
        self.assertEqual(sorted(rows_beside((1, ()), (1, ()), [(0,)], [(0,)])), [(0, 1), (1, 0)])
        self.assertEqual(rows_replaced((1, ()), 0, (1, ()), [(0,)], [(0,)]), [(0,)])
        self.assertEqual(rows_behind(chain(3), chain(5), [(0, 1, 2)], [(0, 1, 2, 3, 4)]), [tuple(range(8))])
        self.assertEqual(rows_replaced(chain(4), 1, chain(5), [(0, 1, 2, 3)], [(0, 1, 2, 3, 4)]), [tuple(range(8))])
        self.assertEqual(len(rows_beside(chain(3), chain(5), [(0, 1, 2)], [(0, 1, 2, 3, 4)])), 2)

    def test_many_rows(self):
        two = (2, ())
        for many, more in ((400, 2), (2, 400), (399, 400), (3, 2)):
            rows = [(0, 1)] * (many - 1) + [(1, 0)]
            others = [(1, 0)] + [(0, 1)] * (more - 1)
            count = max(many, more)
            self.hold(plain_behind(two, two), rows_behind(two, two, rows, others), count)
            self.hold(plain_beside(two, two), rows_beside(two, two, rows, others), count)
            self.hold(plain_replaced(two, 1, two), rows_replaced(two, 1, two, rows, others), count)

    def test_a_turn_in_the_first_or_the_last_row_alone(self):
        # So neither a row left out nor the rows of one list put beside the wrong ones would do.
        two = (2, ())
        for rows, others in product(([(0, 1), (0, 1), (1, 0)], [(1, 0), (0, 1), (0, 1)]), repeat=2):
            self.hold(plain_beside(two, two), rows_beside(two, two, rows, others), 3)
            self.hold(plain_behind(two, two), rows_behind(two, two, rows, others), 3)
            self.hold(plain_replaced(two, 0, two), rows_replaced(two, 0, two, rows, others), 3)

    def test_what_was_told_is_put_together_again(self):
        order = (1, ())
        rows = [(0,)]
        for many in range(2, 9):
            if many % 2:
                rows = rows_behind(order, (1, ()), rows, [(0,)])
                order = behind_of(order, (1, ()))
            else:
                rows = rows_beside(order, (1, ()), rows, [(0,)])
                order = beside_of(order, (1, ()))
            self.hold(order, rows, 2)
            self.assertEqual(order[0], many)
            self.assertEqual(fewest(order), 2)


class RowsRefused(unittest.TestCase):
    def test_no_rows_for_the_first_or_the_other(self):
        for one, other in ((VEE, (2, ())), ((2, ()), DIAMOND), (crown(3), (2, ()))):
            rows, others = fewest_rows(one), fewest_rows(other)
            refused = [(wrong, others) for wrong in no_rows(one)] + [(rows, wrong) for wrong in no_rows(other)]
            refused += [(wrong, None) for wrong in no_rows(one)] + [(others, rows)]
            for first, second in refused:
                with self.subTest(first=first, second=second):
                    with self.assertRaises(NoRows):
                        rows_behind(one, other, first, second)
                    with self.assertRaises(NoRows):
                        rows_beside(one, other, first, second)
                    with self.assertRaises(NoRows):
                        rows_replaced(one, 1, other, first, second)

    def test_rows_of_an_order_that_tell_another_one(self):
        with self.assertRaises(NoRows):
            rows_behind((2, ()), (1, ()), [(0, 1)], [(0,)])
        with self.assertRaises(NoRows):
            rows_behind((2, ((0, 1),)), (1, ()), [(0, 1), (1, 0)], [(0,)])
        with self.assertRaises(NoRows):
            rows_beside((1, ()), (2, ((1, 0),)), [(0,)], [(0, 1)])
        with self.assertRaises(NoRows):
            rows_replaced((1, ()), 0, (2, ((1, 0),)), [(0,)], [(0, 1)])

    def test_no_order_goes_first(self):
        good = ((1, ()), (2, ()), cube())
        for wrong in odd_things() + [(2, ((0, 1), (1, 0))), (1, ((0, 0),)), (3, ((0, 1), (1, 2))), 0, []]:
            for order in good + (wrong,):
                for one, other in ((wrong, order), (order, wrong)):
                    for ask in (
                        lambda: behind_of(one, other), lambda: beside_of(one, other),
                        lambda: replaced(one, 0, other), lambda: replaced(one, None, other),
                        lambda: replaced(one, 9, other), lambda: rows_behind(one, other, None, []),
                        lambda: rows_beside(one, other, [(0,)], None),
                        lambda: rows_replaced(one, "0", other, None, None),
                        lambda: rows_replaced(one, 0, other, [], [(0,)]),
                    ):
                        with self.assertRaises(NoOrder):
                            ask()
            with self.assertRaises(NoOrder):
                without(wrong, 0)
            with self.assertRaises(NoOrder):
                without(wrong, None)

    def test_no_thing_goes_ahead_of_the_rest(self):
        for thing in (8, -1, None, True, "0", [0]):
            with self.assertRaises(NoThing):
                replaced(cube(), thing, cube())
            with self.assertRaises(NoThing):
                rows_replaced(cube(), thing, cube(), None, None)
            with self.assertRaises(NoThing):
                rows_replaced(VEE, thing, (2, ()), None, None)
            with self.assertRaises(NoThing):
                rows_replaced(VEE, thing, (2, ()), fewest_rows(VEE), fewest_rows((2, ())))
            with self.assertRaises(NoThing):
                without((1, ()), thing)
        with self.assertRaises(NoThing):
            without((1, ()), 1)

    def test_too_many_goes_ahead_of_no_rows(self):
        for wrong in odd_things() + [[], fewest_rows(cube())]:
            for one, other in ((cube(), (1, ())), ((1, ()), cube()), (fence(5), fence(4))):
                with self.assertRaises(TooMany):
                    rows_behind(one, other, wrong, wrong)
                with self.assertRaises(TooMany):
                    rows_beside(one, other, wrong, wrong)
            with self.assertRaises(TooMany):
                rows_replaced(cube(), 7, (2, ()), wrong, wrong)
            with self.assertRaises(TooMany):
                rows_replaced((2, ()), 0, cube(), wrong, wrong)

    def test_too_many_where_the_rows_are_right(self):
        rows, others = fewest_rows(fence(5)), fewest_rows(fence(4))
        with self.assertRaises(TooMany):
            rows_behind(fence(5), fence(4), rows, others)
        with self.assertRaises(TooMany):
            rows_beside(fence(5), fence(4), rows, others)
        self.assertEqual(len(rows_replaced(fence(5), 4, fence(4), rows, others)), 2)
        with self.assertRaises(TooMany):
            rows_replaced(fence(5), 4, fence(5), rows, rows)


class Concluded(unittest.TestCase):
    def test_fewest_of_what_is_made(self):
        for one, other in couples()[::3]:
            most = max(fewest(one), fewest(other))
            self.assertEqual(fewest(behind_of(one, other)), most, (one, other))
            self.assertEqual(fewest(beside_of(one, other)), max(most, 2), (one, other))

    def test_fewest_of_a_thing_replaced(self):
        for order, thing, other in list(replacings())[::5]:
            told = fewest(replaced(order, thing, other))
            self.assertEqual(told, max(fewest(order), fewest(other)), (order, thing, other))

    def test_fewest_without_a_thing(self):
        for order in big_orders()[::3] + knotted_orders() + small_orders(3) + small_orders(4)[::4]:
            few = fewest(order)
            for thing in range(order[0]):
                self.assertIn(fewest(without(order, thing)), (few - 1, few), (order, thing))
        self.assertEqual([fewest(without(crown(4), thing)) for thing in range(8)], [3] * 8)
        self.assertEqual([fewest(without(cube(), thing)) for thing in (0, 7)], [3, 3])

    def test_turned_about(self):
        for one, other in couples()[::9]:
            for ask in (behind_of, beside_of):
                self.assertEqual(fewest(turned(ask(one, other))), fewest(ask(one, other)))


class Kept(unittest.TestCase):
    def asked(self, rows, others):
        return [
            lambda: rows_behind(VEE, (2, ()), rows, others), lambda: rows_beside(VEE, (2, ()), rows, others),
            lambda: rows_replaced(VEE, 1, (2, ()), rows, others),
        ]

    def test_what_is_handed_in_stays_and_what_is_told_is_the_askers_own(self):
        rows, others = [(0, 1, 2), (0, 2, 1), (0, 1, 2)], [(1, 0), (0, 1)]
        for ask in self.asked(rows, others):
            told = ask()
            before = frozen(told)
            self.assertEqual(len(lists_within(told)), 1)
            told.append("mine")
            told[0] = "mine"
            self.assertEqual(frozen(ask()), before)
            self.assertEqual(rows, [(0, 1, 2), (0, 2, 1), (0, 1, 2)])
            self.assertEqual(others, [(1, 0), (0, 1)])

    def test_later_changes_of_what_was_handed_in(self):
        for at in range(3):
            rows, others = [(0, 1, 2), (0, 2, 1), (0, 1, 2)], [(1, 0), (0, 1)]
            told = self.asked(rows, others)[at]()
            before = frozen(told)
            rows.append("mine")
            rows[0] = "mine"
            others.clear()
            self.assertEqual(frozen(told), before)

    def test_by_one_thing_the_list_is_still_new(self):
        rows = [(0, 1), (1, 0)]
        told = rows_replaced((2, ()), 1, (1, ()), rows, [(0,)])
        self.assertEqual(told, rows)
        told.append("mine")
        self.assertEqual(rows, [(0, 1), (1, 0)])

    def test_the_same_asked_again(self):
        for one, other in couples()[::11]:
            rows, others = fewest_rows(one), fewest_rows(other)
            first = frozen([behind_of(one, other), rows_behind(one, other, rows, others),
                            rows_beside(one, other, rows, others)])
            again = frozen([behind_of(one, other), rows_behind(one, other, rows, others),
                            rows_beside(one, other, rows, others)])
            self.assertEqual(again, first)


if __name__ == "__main__":
    unittest.main()
