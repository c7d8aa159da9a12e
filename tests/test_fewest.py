import unittest
from itertools import combinations, permutations, product

from rowsorder.chains import most_apart
from rowsorder.errors import NoNumber
from rowsorder.fewest import case_paper, do_cross, fewest, fewest_rows, is_case_paper, most_cross
from rowsorder.orders import turned
from rowsorder.points import one_row, two_rows
from rowsorder.rows import tell
from tests.samples import (
    big_orders, chain, crown, cube, fence, frozen, is_plain_ring, knotted_orders, lists_within, loose, odd_things,
    plain_rows, plain_tell, plain_turns, small_orders, some_orders, turns_all,
)

DIAMOND = (4, ((0, 1), (0, 2), (0, 3), (1, 3), (2, 3)))
TWO = (2, ())
RING = [(0, 1), (1, 0)]
PAPER = ("turn", (0, 1), (("turn", (1, 0), (("ring", 0, RING),)),))


def orders():
    return small_orders(4) + some_orders() + knotted_orders() + [crown(4)]


def is_plain_turn(thing, order):
    return thing.__class__ is tuple and frozen(thing) in [frozen(turn) for turn in plain_turns(order)] and not any(
        part.__class__ is bool for part in thing)


def plain_bars(paper, order, puts):
    """Whether a thing is a case paper where these turns are put to the rows."""
    if paper.__class__ is not tuple or len(paper) != 3:
        return False
    head, middle, last = paper
    if head == "ring":
        if middle.__class__ is not int or not 0 <= middle < len(puts) or last.__class__ is not list:
            return False
        whole = all(is_plain_turn(turn, order) and turn in puts[middle] for turn in last)
        return whole and is_plain_ring(order, last)
    if head != "turn" or not is_plain_turn(middle, order) or last.__class__ is not tuple or len(last) != len(puts):
        return False
    for number, part in enumerate(last):
        more = [put | {middle} if at == number else put for at, put in enumerate(puts)]
        if not plain_bars(part, order, more):
            return False
    return True


def is_plain_paper(paper, order, count):
    return plain_bars(paper, order, [frozenset()] * count)


def spoilt(thing, order):
    """All things that come of one change somewhere in a paper."""
    if thing.__class__ in (tuple, list):
        kind = thing.__class__
        yield (list if kind is tuple else tuple)(thing)
        yield thing + kind([thing[0]]) if len(thing) else kind([None])
        for at in range(len(thing)):
            yield thing[:at] + thing[at + 1:]
            for other in spoilt(thing[at], order):
                yield thing[:at] + kind([other]) + thing[at + 1:]
        if len(thing) > 1:
            yield thing[1:] + thing[:1]
            yield thing[::-1]
    elif thing.__class__ is int:
        yield from (thing + 1, thing - 1, -1, order[0], None, str(thing), [thing], 10 ** 39)
        if thing < 2:
            yield bool(thing)
    else:
        yield from ("ring" if thing == "turn" else "turn", "", None, 0, [thing])


def does_cross(order, one, other):
    held = order[1]
    return (one[0] == other[1] or (one[0], other[1]) in held) and (other[0] == one[1] or (other[0], one[1]) in held)


def plain_most_cross(order):
    """How many turns cross at most, sharp or not."""
    best = [[]]
    while True:
        more = []
        for some in best:
            for turn in plain_turns(order):
                if (not some or turn > some[-1]) and all(does_cross(order, turn, other) for other in some):
                    more.append(some + [turn])
        if not more:
            return len(best[0])
        best = more


class Fewest(unittest.TestCase):
    def test_known_ones(self):
        for many in range(1, 9):
            self.assertEqual(fewest(chain(many)), 1)
            self.assertEqual(fewest(loose(many)), 1 if many == 1 else 2)
            self.assertEqual(fewest(fence(many)), 1 if many < 3 else 2)
        self.assertEqual([fewest(crown(half)) for half in (2, 3, 4)], [2, 3, 4])
        self.assertEqual(fewest(cube()), 3)
        self.assertEqual(fewest(DIAMOND), 2)
        for order in knotted_orders():
            self.assertEqual(fewest(order), 3)

    def test_every_order_of_few_things(self):
        for many in range(1, 5):
            for order in small_orders(many):
                rows = plain_rows(order)
                due = next(count for count in (1, 2, 3)
                           if any(plain_tell(order, some) for some in combinations(rows, min(count, len(rows)))))
                self.assertEqual(fewest(order), due, order)
                self.assertNotIsInstance(fewest(order), bool)

    def test_orders_of_five_and_six_things(self):
        for order in big_orders() + knotted_orders()[2:5]:
            rows = plain_rows(order)
            if order[0] < 7 and 1 < len(rows) <= 120:
                two = any(plain_tell(order, some) for some in combinations(rows, 2))
                self.assertEqual(fewest(order) <= 2, two, order)

    def test_rows_that_tell(self):
        for order in orders():
            rows = fewest_rows(order)
            self.assertIsInstance(rows, list)
            self.assertEqual(len(rows), fewest(order))
            self.assertEqual([row.__class__ for row in rows], [tuple] * len(rows))
            self.assertTrue(all(sorted(row) == list(range(order[0])) for row in rows))
            self.assertTrue(plain_tell(order, rows), order)
            self.assertIs(tell(rows, order), True)

    def test_nobodys_fewer_rows_do(self):
        for order in orders():
            few = fewest(order)
            if few > 1:
                paper = case_paper(order, few - 1)
                self.assertTrue(is_plain_paper(paper, order, few - 1), order)

    def test_beside_the_other_answers(self):
        for order in orders():
            few = fewest(order)
            self.assertIs(few == 1, one_row(order))
            self.assertIs(few <= 2, two_rows(order) is not None)
            self.assertLessEqual(few, len(most_apart(order)))
            self.assertLessEqual(len(most_cross(order)), few)
            self.assertEqual(fewest(turned(order)), few)

    def test_things_numbered_anew(self):
        for names in list(permutations(range(8)))[::4001]:
            for order, few in ((crown(4), 4), (cube(), 3), (fence(8), 2)):
                pairs = tuple(sorted((names[a], names[b]) for a, b in order[1]))
                self.assertEqual(fewest((8, pairs)), few)
                self.assertTrue(plain_tell((8, pairs), fewest_rows((8, pairs))))


class CasePaper(unittest.TestCase):
    def test_for_each_number_of_rows(self):
        for order in orders():
            few = fewest(order)
            for count in range(1, 9):
                paper = case_paper(order, count)
                if count >= few:
                    self.assertIsNone(paper)
                else:
                    self.assertIsInstance(paper, tuple)
                    self.assertTrue(is_plain_paper(paper, order, count), (order, count))
                    self.assertIs(is_case_paper(paper, order, count), True)

    def test_no_number(self):
        for order in (DIAMOND, crown(4), chain(3)):
            for count in odd_things() + [0, 10, -8, (2,), [2], 10 ** 39]:
                with self.subTest(count=count):
                    with self.assertRaises(NoNumber):
                        case_paper(order, count)
                    for paper in (None, PAPER, ("ring", 0, []), []):
                        with self.assertRaises(NoNumber):
                            is_case_paper(paper, order, count)

    def test_handed_on_to_other_numbers_and_orders(self):
        for order, count in ((crown(4), 3), (crown(4), 2), (crown(3), 2), (DIAMOND, 1), (cube(), 2)):
            paper = case_paper(order, count)
            for other in range(1, 9):
                self.assertIs(is_case_paper(paper, order, other), other == count)
        self.assertIs(is_case_paper(case_paper(crown(3), 2), chain(6), 2), False)
        self.assertIs(is_case_paper(case_paper(crown(3), 2), loose(6), 2), False)


class IsCasePaper(unittest.TestCase):
    def test_a_paper_by_hand(self):
        self.assertIs(is_case_paper(PAPER, TWO, 1), True)
        for ring in (RING, RING[::-1], RING * 2, RING * 200):
            paper = ("turn", (0, 1), (("turn", (1, 0), (("ring", 0, ring),)),))
            self.assertIs(is_case_paper(paper, TWO, 1), True)
        again = ("turn", (0, 1), (("turn", (0, 1), (("turn", (1, 0), (("ring", 0, RING),)),)),))
        self.assertIs(is_case_paper(again, TWO, 1), True)

    def test_of_whatever_kind(self):
        wrong = odd_things() + [
            0, [], (), ("ring",), ("turn",), ("ring", 0), ("ring", 0, []), ("ring", 0, RING), ("turn", (0, 1), ()),
            ("turn", (0, 1), None), ("turn", (0, 1), (None,)), ("turn", (0, 1), ((),)), list(PAPER), (PAPER,), [PAPER],
            ("turn", (0, 1), (("ring", 0, [(0, 1)]),)), ("turn", (0, 1), (("ring", 0, []),)),
            ("turn", (0, 1), (("ring", 0, RING),)), ("turn", (0, 1), [PAPER[2][0]]), ("turn", [0, 1], PAPER[2]),
            ("turn", (0, True), PAPER[2]), ("turn", (False, 1), PAPER[2]), ("turn", (0, 0), PAPER[2]),
            ("turn", (0, 2), PAPER[2]), ("turn", (0, 1), PAPER[2] * 2), PAPER + (None,), ("paper", (0, 1), PAPER[2]),
            (["turn"], (0, 1), PAPER[2]), ({}, {}, {}), (None, None, None), ("ring", [], {}), ("ring", {}, [()]),
            ("ring", 0, None), ("turn", None, None), ("turn", {}, ({},)), {"turn": PAPER}, "turn",
        ]
        for ring in (tuple(RING), [(0, 1), [1, 0]], [(0, 1), (True, 0)], [(0, 1), (1, False)], [(0, 1), None], {}):
            wrong.append(("turn", (0, 1), (("turn", (1, 0), (("ring", 0, ring),)),)))
        for number in (1, -1, False, True, None, "0", [0], 10 ** 39):
            wrong.append(("turn", (0, 1), (("turn", (1, 0), (("ring", number, RING),)),)))
        for thing in wrong:
            self.assertIs(is_case_paper(thing, TWO, 1), False, thing)

    def test_the_ring_must_be_put_to_its_row(self):
        rings = (("ring", 0, RING), ("ring", 1, RING))
        good = ("turn", (0, 1), (("turn", (1, 0), rings), ("turn", (1, 0), rings)))
        # Two rows tell the order, so in the crossed cases no ring is there.
        self.assertIs(is_case_paper(good, TWO, 2), False)
        half = ("turn", (0, 1), (("turn", (1, 0), (rings[0], rings[0])), ("turn", (1, 0), (rings[1], rings[1]))))
        self.assertIs(is_case_paper(half, TWO, 2), False)

    def test_one_thing_changed_somewhere(self):
        papers = [(TWO, 1), (DIAMOND, 1), (crown(2), 1), (crown(3), 1), (crown(3), 2), (knotted_orders()[3], 2)]
        for order, count in papers:
            paper = case_paper(order, count)
            barring = 0
            asked = 0
            for thing in spoilt(paper, order):
                due = is_plain_paper(thing, order, count)
                self.assertIs(is_case_paper(thing, order, count), due, thing)
                barring += due
                asked += 1
            self.assertLess(barring * 10, asked)

    def test_a_turn_turned_in_a_paper_of_four_rows(self):
        order = crown(4)
        paper = case_paper(order, 3)
        for thing in list(spoilt(paper, order))[::37]:
            self.assertIs(is_case_paper(thing, order, 3), is_plain_paper(thing, order, 3))
        turn, papers = paper[1], paper[2]
        self.assertIs(is_case_paper(("turn", turn[::-1], papers), order, 3), False)
        for at in range(3):
            self.assertIs(is_case_paper(papers[at], order, 3), False)
            for other in permutations(papers):
                if other != papers:
                    self.assertIs(is_case_paper(("turn", turn, other), order, 3), False)

    def test_a_shorter_way_through_the_crowns(self):
        for half in (2, 3, 4):
            crossing = [(at, half + at) for at in range(half)]
            for count in range(1, 9):
                paper = self.by_crossing(crossing, [[] for row in range(count)])
                self.assertIs(is_case_paper(paper, crown(half), count), count < half)

    def by_crossing(self, left, puts):
        if not left:
            return ("ring", 0, puts[0])
        papers = []
        for number, put in enumerate(puts):
            if put:
                papers.append(("ring", number, [put[0], left[0]]))
            else:
                more = puts[:number] + [[left[0]]] + puts[number + 1:]
                papers.append(self.by_crossing(left[1:], more))
        return ("turn", left[0], tuple(papers))

    def test_no_paper_where_so_many_rows_tell(self):
        papers = [case_paper(order, fewest(order) - 1) for order in orders()[::3] if fewest(order) > 1] + [PAPER]
        for order in orders()[::7]:
            for count in range(fewest(order), 9):
                for paper in papers[::5]:
                    self.assertIs(is_case_paper(paper, order, count), False)


class Cross(unittest.TestCase):
    def test_plain_ones(self):
        self.assertIs(do_cross([], DIAMOND), True)
        self.assertIs(do_cross([], chain(8)), True)
        self.assertIs(do_cross([(1, 2)], DIAMOND), True)
        self.assertIs(do_cross([(1, 2), (2, 1)], DIAMOND), True)
        self.assertIs(do_cross([(0, 4), (1, 5), (2, 6), (3, 7)], crown(4)), True)
        self.assertIs(do_cross([(3, 7), (0, 4), (2, 6)], crown(4)), True)
        self.assertIs(do_cross([(1, 2), (1, 2)], DIAMOND), False)
        self.assertIs(do_cross([(0, 4), (1, 5), (0, 4)], crown(4)), False)
        self.assertIs(do_cross([(0, 4), (1, 5), (4, 0)], crown(4)), False)
        self.assertIs(do_cross([(0, 1), (1, 2), (2, 0)], loose(3)), False)

    def test_every_few_turns(self):
        for order in small_orders(2) + small_orders(3) + small_orders(4)[::8]:
            rows = plain_rows(order)
            met = {some: any(turns_all(row, some) for row in rows) for some in product(plain_turns(order), repeat=2)}
            for size in range(4):
                for some in product(plain_turns(order), repeat=size):
                    due = len(set(some)) == size and not any(met[two] for two in combinations(some, 2))
                    self.assertIs(do_cross(list(some), order), due, (some, order))

    def test_of_whatever_kind(self):
        wrong = odd_things() + [
            0, (), ((1, 2),), (1, 2), [[1, 2]], [(1, 2), None], [(1, 2), (2, 1), (0, 1)], [(1, 1)], [(0, 3)], [(1, 4)],
            [(True, 2)], [(2, True)], [(1, 2), (2, True)], [("1", "2")], {(1, 2): (2, 1)}, "12", [(1, 2, 1)], [()],
            [(1, [2])], [({}, 2)], [[(1, 2)]], {}, [(1, 2)] * 400, [(1, 2), (2, 1)] * 2, [(1, 10 ** 39)], [1, 2],
        ]
        for thing in wrong:
            self.assertIs(do_cross(thing, DIAMOND), False, thing)

    def test_as_many_as_can_be(self):
        for order in orders():
            told = most_cross(order)
            self.assertIsInstance(told, list)
            self.assertTrue(all(turn in plain_turns(order) for turn in told))
            self.assertTrue(all(does_cross(order, one, other) for one, other in combinations(told, 2)))
            self.assertIs(do_cross(told, order), True)
            self.assertEqual(len(told), plain_most_cross(order), order)

    def test_known_ones(self):
        self.assertEqual(most_cross((1, ())), [])
        self.assertEqual(most_cross(chain(8)), [])
        self.assertEqual(sorted(most_cross(DIAMOND)), [(1, 2), (2, 1)])
        self.assertEqual(sorted(most_cross(crown(4))), [(0, 4), (1, 5), (2, 6), (3, 7)])
        self.assertEqual(len(most_cross(loose(8))), 2)
        self.assertEqual(len(most_cross(crown(3))), 3)
        self.assertEqual(len(most_cross(cube())), 3)


class Kept(unittest.TestCase):
    def test_what_is_handed_in_stays(self):
        some = [(2, 1), (1, 2), (2, 1)]
        do_cross(some, DIAMOND)
        self.assertEqual(some, [(2, 1), (1, 2), (2, 1)])
        paper = case_paper(crown(3), 2)
        before = frozen(paper)
        is_case_paper(paper, crown(3), 2)
        is_case_paper(paper, crown(3), 3)
        self.assertEqual(frozen(paper), before)

    def test_told_lists_are_the_askers_own(self):
        asked = [
            lambda: fewest_rows(crown(4)), lambda: fewest_rows(chain(4)), lambda: most_cross(crown(4)),
            lambda: most_cross(chain(8)), lambda: case_paper(crown(4), 3), lambda: case_paper(crown(3), 2),
            lambda: case_paper(cube(), 2), lambda: case_paper(loose(8), 1),
        ]
        for ask in asked:
            told = ask()
            before = frozen(told)
            within = lists_within(told)
            self.assertGreater(len(within), 0)
            self.assertEqual(len({id(part) for part in within}), len(within))
            for part in within:
                part.append("mine")
                part.insert(0, "mine")
            self.assertEqual(frozen(ask()), before)

    def test_the_same_asked_again(self):
        for order in orders()[::9]:
            first = frozen([fewest_rows(order), case_paper(order, 1), case_paper(order, 2), most_cross(order)])
            again = frozen([fewest_rows(order), case_paper(order, 1), case_paper(order, 2), most_cross(order)])
            self.assertEqual(again, first)


if __name__ == "__main__":
    unittest.main()
