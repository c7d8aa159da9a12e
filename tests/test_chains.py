import unittest
from itertools import combinations, permutations

from rowsorder.chains import are_chains, chain_row, chain_rows, chains, most_apart
from rowsorder.errors import NoChain
from rowsorder.rows import tell
from tests.samples import (
    chain, crown, cube, fence, frozen, is_apart, knotted_orders, lists_within, loose, odd_things, plain_rows,
    plain_tell, small_orders, some_orders, subsets,
)

DIAMOND = (4, ((0, 1), (0, 2), (0, 3), (1, 3), (2, 3)))
BACK = (3, ((1, 0), (2, 0), (2, 1)))


def orders():
    return small_orders(4) + some_orders() + knotted_orders()


def plain_chains(order):
    """All chains of an order."""
    for some in subsets(range(order[0])):
        if some and not any(is_apart(order, a, b) for a, b in combinations(some, 2)):
            yield list(some)


def plain_most_apart(order):
    best = []
    for some in subsets(range(order[0])):
        if len(some) > len(best) and all(is_apart(order, a, b) for a, b in combinations(some, 2)):
            best = list(some)
    return best


class MostApart(unittest.TestCase):
    def test_plain_ones(self):
        self.assertEqual(most_apart((1, ())), [0])
        self.assertEqual(most_apart(DIAMOND), [1, 2])
        self.assertEqual(most_apart(chain(8)), [0])
        self.assertEqual(most_apart(loose(8)), [0, 1, 2, 3, 4, 5, 6, 7])
        self.assertEqual(most_apart(crown(4)), [0, 1, 2, 3])
        self.assertEqual(most_apart(cube()), [1, 2, 4])
        self.assertEqual(most_apart(fence(8)), [0, 2, 4, 6])

    def test_the_first_of_several(self):
        self.assertEqual(most_apart((4, ((2, 0), (3, 1)))), [0, 1])
        self.assertEqual(most_apart((5, ((0, 1), (0, 2), (0, 3), (0, 4)))), [1, 2, 3, 4])
        self.assertEqual(most_apart((4, ((0, 1), (0, 2), (1, 2)))), [0, 3])

    def test_many_orders(self):
        for order in orders():
            self.assertEqual(most_apart(order), plain_most_apart(order), order)


class Chains(unittest.TestCase):
    def test_plain_ones(self):
        self.assertEqual(chains((1, ())), [[0]])
        self.assertEqual(chains(chain(8)), [[0, 1, 2, 3, 4, 5, 6, 7]])
        self.assertEqual(chains(loose(3)), [[0], [1], [2]])
        self.assertEqual(chains(BACK), [[0, 1, 2]])
        self.assertEqual(chains((4, ((2, 1), (3, 0)))), [[0, 3], [1, 2]])

    def test_as_few_as_can_be_with_each_thing_once(self):
        for order in orders():
            told = chains(order)
            self.assertIsInstance(told, list)
            self.assertEqual(len(told), len(plain_most_apart(order)), order)
            self.assertEqual(sorted(sum(told, [])), list(range(order[0])))
            self.assertEqual([one[0] for one in told], sorted(one[0] for one in told))
            for one in told:
                self.assertIsInstance(one, list)
                self.assertEqual(one, sorted(one))
                self.assertFalse(any(is_apart(order, a, b) for a, b in combinations(one, 2)))
            self.assertIs(are_chains(told, order), True)


class AreChains(unittest.TestCase):
    def test_in_whatever_order(self):
        for order in (DIAMOND, crown(3), loose(4), chain(5), BACK):
            told = chains(order)
            for some in permutations(told):
                self.assertIs(are_chains(list(some), order), True)

    def test_not_only_the_fewest(self):
        self.assertIs(are_chains([[0], [1], [2], [3]], DIAMOND), True)
        self.assertIs(are_chains([[3], [0, 1], [2]], DIAMOND), True)
        self.assertIs(are_chains([[2], [0, 1, 3]], DIAMOND), True)
        self.assertIs(are_chains([[1, 2], [0]], BACK), True)

    def test_every_list_of_chains_of_few_things(self):
        for order in small_orders(3) + [DIAMOND, loose(4), (4, ((0, 3), (1, 2)))]:
            groups = [list(some) for some in subsets(range(order[0])) if some]
            whole = list(plain_chains(order))
            for size in range(order[0] + 1):
                for some in combinations(groups, size):
                    due = all(one in whole for one in some) and sorted(sum(some, [])) == list(range(order[0]))
                    self.assertIs(are_chains(list(some), order), due, (some, order))

    def test_what_is_none(self):
        wrong = odd_things() + [
            0, [], (), [[]], [[0, 1, 3]], [[0, 1], [3]], [[0, 1, 3], [2], [2]], [[0, 1, 3], [1], [2]],
            [[0, 1, 3], [0, 2]], [[0, 1, 3], [2], []], [[], [0, 1, 3], [2]], [[3, 1, 0], [2]], [[0, 3, 1], [2]],
            [(0, 1, 3), [2]], ([0, 1, 3], [2]), [[0, 1, 3], (2,)], [[0, True, 3], [2]], [[False, 1, 3], [2]],
            [[0, 1, 2, 3]], [[1, 2], [0, 3]], [[0, 1, 3], [2], [4]], [[0, 1, 3, 4], [2]], [[-1, 0, 1, 3], [2]],
            [[0, 1, 1, 3], [2]], [[0, 1, 3], [2, 2]], [[0, 1, 3], 2], [[0, 1, 3], None], [0, 1, 2, 3], "0123",
            [[0, 1, "3"], [2]], [[0, 1, [3]], [2]], [[0, 1, {}], [2]], [[0, 1, None], [2]], {0: [0, 1, 3]},
            [[0, 1, 3], "2"], [[0, 1, 3], {2: 2}], [[[0, 1, 3], [2]]], [[0, 1, 3], [10 ** 39]],
        ]
        for thing in wrong:
            self.assertIs(are_chains(thing, DIAMOND), False, thing)
        self.assertIs(are_chains([[0, 1, 3], [2]], DIAMOND), True)
        self.assertIs(are_chains([[2, 1, 0]], BACK), False)
        self.assertIs(are_chains([[0, 1, 2]], BACK), True)
        self.assertIs(are_chains([[False]], (1, ())), False)

    def test_long_lists(self):
        self.assertIs(are_chains([[0]] * 400, loose(8)), False)
        self.assertIs(are_chains([list(range(400))], chain(8)), False)


class ChainRow(unittest.TestCase):
    def check(self, order, one):
        row = chain_row(order, one)
        self.assertIsInstance(row, tuple)
        self.assertEqual(sorted(row), list(range(order[0])))
        self.assertTrue(all(row.index(a) < row.index(b) for a, b in order[1]), (order, one))
        for a in one:
            for b in range(order[0]):
                if is_apart(order, a, b):
                    self.assertLess(row.index(b), row.index(a), (order, one))

    def test_plain_ones(self):
        self.assertEqual(chain_row((1, ()), [0]), (0,))
        self.assertEqual(chain_row(DIAMOND, [1]), (0, 2, 1, 3))
        self.assertEqual(chain_row(DIAMOND, [0, 2, 3]), (0, 1, 2, 3))
        self.assertEqual(chain_row(BACK, [0, 2]), (2, 1, 0))
        self.assertEqual(chain_row(loose(8), [3])[-1], 3)

    def test_each_chain_of_small_orders(self):
        for many in range(1, 5):
            for order in small_orders(many):
                for one in plain_chains(order):
                    self.check(order, one)

    def test_each_chain_of_larger_orders(self):
        for order in some_orders() + knotted_orders():
            if order[0] > 4:
                for one in list(plain_chains(order))[::3]:
                    self.check(order, one)
                for one in chains(order):
                    self.check(order, one)

    def test_what_is_no_chain(self):
        wrong = [thing for thing in odd_things() if thing != [0]] + [
            0, [], (0,), (0, 1), [1, 2], [0, 1, 2], [1, 0], [3, 0], [0, 0], [0, 1, 1], [4], [0, 4], [-1], [-1, 0],
            [False], [0, True], [True, 3], ["0"], [[0]], [None], [{}], {0: 1}, "0", [[0, 1]], [0, None], [0, [1]],
            [10 ** 39], [0, 1, 3, 10 ** 39], list(range(400)), [0] * 400,
        ]
        for one in wrong:
            with self.subTest(one=one):
                with self.assertRaises(NoChain):
                    chain_row(DIAMOND, one)

    def test_every_list_of_few_things(self):
        for order in small_orders(3):
            whole = list(plain_chains(order))
            for size in range(4):
                for some in permutations(range(3), size):
                    if list(some) in whole:
                        self.check(order, list(some))
                    else:
                        with self.assertRaises(NoChain):
                            chain_row(order, list(some))


class ChainRows(unittest.TestCase):
    def test_one_for_each_chain_in_their_order(self):
        for order in orders():
            parts = chains(order)
            rows = chain_rows(order)
            self.assertIsInstance(rows, list)
            self.assertEqual(len(rows), len(parts))
            for row, one in zip(rows, parts):
                for a in one:
                    late = [row.index(b) < row.index(a) for b in range(order[0]) if is_apart(order, a, b)]
                    self.assertTrue(all(late), (order, one, row))

    def test_they_tell_the_order(self):
        for order in orders():
            rows = chain_rows(order)
            self.assertIs(tell(rows, order), True)
            self.assertTrue(plain_tell(order, rows))

    def test_such_rows_of_whatever_chains_tell_the_order(self):
        for order in small_orders(3) + small_orders(4)[::4]:
            apart_chains = [[thing] for thing in range(order[0])]
            for parts in (apart_chains, apart_chains[::-1], chains(order)[::-1]):
                self.assertTrue(plain_tell(order, [chain_row(order, one) for one in parts]))

    def test_a_chain_has_its_one_row(self):
        self.assertEqual(chain_rows(chain(8)), plain_rows(chain(8)))
        self.assertEqual(chain_rows((1, ())), [(0,)])


class Kept(unittest.TestCase):
    def test_what_is_handed_in_stays(self):
        one = [0, 1, 3]
        parts = [[2], [0, 1, 3]]
        row = chain_row(DIAMOND, one)
        self.assertIs(are_chains(parts, DIAMOND), True)
        self.assertEqual((one, parts), ([0, 1, 3], [[2], [0, 1, 3]]))
        one.append(2)
        self.assertEqual(row, (0, 2, 1, 3))

    def test_refused_lists_stay(self):
        for one in ([3, 1, 0], [1, 1, 2], [0, None, [1]]):
            before = list(one)
            with self.assertRaises(NoChain):
                chain_row(DIAMOND, one)
            self.assertIs(are_chains([one], DIAMOND), False)
            self.assertEqual(one, before)

    def test_told_lists_are_the_askers_own(self):
        for order in (DIAMOND, crown(4), (1, ()), loose(8)):
            for ask in (most_apart, chains, chain_rows):
                told = ask(order)
                before = frozen(told)
                within = lists_within(told)
                self.assertEqual(len({id(part) for part in within}), len(within))
                for part in within:
                    part.append("mine")
                    part.insert(0, "mine")
                self.assertEqual(frozen(ask(order)), before)


if __name__ == "__main__":
    unittest.main()
