import unittest

from rowsorder.bounds import bounds
from rowsorder.chains import most_apart
from rowsorder.desk import Desk
from rowsorder.errors import Bare, NoLine, NoRow, NoThing, RankError, Ring, TooMany
from rowsorder.fewest import fewest, most_cross
from rowsorder.points import two_rows
from rowsorder.texts import show_order
from tests.samples import (
    crown, cube, fence, knotted_orders, odd_things, plain_closed, plain_rows, plain_tell, plain_turns, some_orders,
)

ASKED = ("order", "rows", "told", "left", "fewest", "apart", "cross", "many", "two", "bounds")


def told(lines):
    """A desk that was told these lines."""
    desk = Desk()
    for line in lines:
        desk.say(line)
    return desk


def desk_for(order):
    many, pairs = order
    return told([f"things {many}"] + [f"ahead {a} {b}" for a, b in pairs])


def seen(desk):
    return [desk.say(line) for line in ASKED]


def undone(desk):
    """What is seen after each back, to the first state; the desk is used up by it."""
    states = [seen(desk)]
    while True:
        try:
            desk.say("back")
        except Bare:
            return states
        states.append(seen(desk))


def spaced(numbers):
    return " ".join(str(number) for number in numbers)


class PlainDesk:
    """A desk that keeps the lines that stand, and goes through them anew each time."""

    def __init__(self):
        self.lines = []

    def state(self):
        many, pairs, rows = 1, (), []
        for line in self.lines:
            word, *words = line.split(" ")
            numbers = [int(one) for one in words]
            if word == "things":
                many, pairs, rows = numbers[0], (), []
            elif word == "ahead":
                pairs, rows = plain_closed(list(pairs) + [tuple(numbers)]), []
            elif word == "row":
                rows = rows + [tuple(numbers)]
            else:
                rows = rows[:-1]
        return (many, pairs), rows

    def refusal(self, line):
        order, rows = self.state()
        word, *words = line.split(" ")
        numbers = [int(one) for one in words]
        if word == "ahead":
            if max(numbers) >= order[0]:
                return NoThing
            if numbers[0] == numbers[1] or (numbers[1], numbers[0]) in order[1]:
                return Ring
        if word == "row":
            if sorted(numbers) != list(range(order[0])):
                return NoRow
            if any(numbers.index(a) > numbers.index(b) for a, b in order[1]):
                return NoRow
            if len(rows) == 8:
                return TooMany
        if word == "take" and not rows or word == "back" and not self.lines:
            return Bare
        return None

    def say(self, line):
        word = line.split(" ")[0]
        if word == "back":
            self.lines.pop()
        elif word in ("things", "ahead", "row", "take"):
            self.lines.append(line)
        order, rows = self.state()
        if word in ("things", "back"):
            return "ok"
        if word == "ahead":
            return str(len(order[1]))
        if word in ("row", "take"):
            return str(len(rows))
        return self.answer(word, order, rows)

    def answer(self, word, order, rows):
        left = [turn for turn in plain_turns(order)
                if not any(row.index(turn[1]) < row.index(turn[0]) for row in rows)]
        answers = {
            "order": lambda: show_order(order),
            "rows": lambda: "; ".join(spaced(row) for row in rows) or "none",
            "told": lambda: "yes" if rows and plain_tell(order, rows) else "no",
            "left": lambda: spaced(left[0]) if left else "none",
            "fewest": lambda: str(fewest(order)),
            "apart": lambda: str(len(most_apart(order))),
            "cross": lambda: str(len(most_cross(order))),
            "many": lambda: str(len(plain_rows(order))),
            "two": lambda: "no" if two_rows(order) is None else "yes",
            "bounds": lambda: spaced(bounds(order)),
        }
        return answers[word]()


def some_lines(seed, many_lines):
    """Lines chosen by the seed; some are refused, each is one of the lines that a desk is told."""
    state = seed * 7919 + 17
    lines = []
    many = 1
    for step in range(many_lines):
        state = (state * 1103515245 + 12345) % (2 ** 31)
        pick, rest = (state >> 8) % 20, state >> 13
        if pick == 0:
            many = 1 + rest % 5
            lines.append(f"things {many}")
        elif pick < 5:
            lines.append(f"ahead {rest % (many + 1)} {rest // 7 % many}")
        elif pick < 11:
            things = list(range(many))
            row = [things.pop(rest // (at * at + 1) % len(things)) for at in range(many)]
            lines.append("row " + spaced(row if pick < 8 else sorted(row)))
        elif pick < 13:
            lines.append("take")
        elif pick < 16:
            lines.append("back")
        else:
            lines.append(ASKED[rest % len(ASKED)])
    return lines


class Answers(unittest.TestCase):
    def test_a_new_desk(self):
        self.assertEqual(seen(Desk()), ["1", "none", "no", "none", "1", "1", "0", "1", "yes", "1 1"])

    def test_things(self):
        desk = Desk()
        for many in range(1, 9):
            self.assertEqual(desk.say(f"things {many}"), "ok")
            self.assertEqual(desk.say("order"), str(many))

    def test_ahead_and_order(self):
        desk = told(["things 4"])
        self.assertEqual(desk.say("ahead 0 2"), "1")
        self.assertEqual(desk.say("ahead 1 2"), "2")
        self.assertEqual(desk.say("order"), "4 0<2 1<2")
        self.assertEqual(desk.say("ahead 2 3"), "5")
        self.assertEqual(desk.say("order"), "4 0<2 1<2 2<3")
        self.assertEqual(desk.say("ahead 0 3"), "5")
        self.assertEqual(desk.say("order"), "4 0<2 1<2 2<3")

    def test_more_than_nine_pairs(self):
        desk = told(["things 8"])
        answers = [desk.say(f"ahead {thing} {thing + 1}") for thing in range(7)]
        self.assertEqual(answers, ["1", "3", "6", "10", "15", "21", "28"])

    def test_rows(self):
        desk = told(["things 3", "ahead 0 1"])
        self.assertEqual(desk.say("rows"), "none")
        self.assertEqual(desk.say("row 0 1 2"), "1")
        self.assertEqual(desk.say("rows"), "0 1 2")
        self.assertEqual(desk.say("row 2 0 1"), "2")
        self.assertEqual(desk.say("rows"), "0 1 2; 2 0 1")
        self.assertEqual(desk.say("row 0 1 2"), "3")
        self.assertEqual(desk.say("rows"), "0 1 2; 2 0 1; 0 1 2")
        self.assertEqual(desk.say("take"), "2")
        self.assertEqual(desk.say("rows"), "0 1 2; 2 0 1")
        self.assertEqual(desk.say("take"), "1")
        self.assertEqual(desk.say("take"), "0")
        self.assertEqual(desk.say("rows"), "none")

    def test_told_and_left(self):
        desk = told(["things 3", "ahead 0 1"])
        self.assertEqual([desk.say("told"), desk.say("left")], ["no", "0 2"])
        desk.say("row 0 1 2")
        self.assertEqual([desk.say("told"), desk.say("left")], ["no", "0 2"])
        desk.say("row 0 2 1")
        self.assertEqual([desk.say("told"), desk.say("left")], ["no", "0 2"])
        desk.say("row 2 0 1")
        self.assertEqual([desk.say("told"), desk.say("left")], ["yes", "none"])
        desk.say("take")
        self.assertEqual([desk.say("told"), desk.say("left")], ["no", "0 2"])
        desk = told(["things 3", "ahead 0 1", "row 2 0 1"])
        self.assertEqual([desk.say("told"), desk.say("left")], ["no", "2 0"])

    def test_without_rows_or_turns(self):
        desk = told(["things 2", "ahead 1 0"])
        self.assertEqual([desk.say("told"), desk.say("left"), desk.say("rows")], ["no", "none", "none"])
        desk.say("row 1 0")
        self.assertEqual([desk.say("told"), desk.say("left"), desk.say("rows")], ["yes", "none", "1 0"])
        desk = Desk()
        self.assertEqual([desk.say("row 0"), desk.say("told"), desk.say("left")], ["1", "yes", "none"])

    def test_what_is_asked_of_the_order(self):
        self.assertEqual(seen(desk_for(crown(3)))[4:], ["3", "3", "3", "48", "no", "3 3"])
        self.assertEqual(seen(desk_for(crown(4)))[4:], ["4", "4", "4", str(len(plain_rows(crown(4)))), "no", "4 4"])
        self.assertEqual(seen(desk_for(cube()))[4:], ["3", "3", "3", "48", "no", "3 3"])
        self.assertEqual(seen(told(["things 8"]))[4:], ["2", "8", "2", "40320", "yes", "2 4"])
        self.assertEqual(seen(desk_for(fence(4)))[4:], ["2", "2", "2", "5", "yes", "2 2"])
        self.assertEqual(seen(told(["things 2", "ahead 0 1"]))[4:], ["1", "1", "0", "1", "yes", "1 1"])

    def test_as_the_functions_tell(self):
        for order in some_orders()[::6] + knotted_orders()[2:6]:
            desk = desk_for(order)
            plain = PlainDesk()
            for line in ASKED:
                self.assertEqual(desk.say(line), plain.answer(line, order, []), (order, line))

    def test_texts_alone(self):
        desk = told(["things 3", "row 0 1 2"])
        for line in ASKED + ("take", "ahead 0 1", "things 2", "row 1 0", "back"):
            self.assertIs(desk.say(line).__class__, str)

    def test_beside_a_plain_desk(self):
        refused = []
        for seed in range(60):
            desk, plain = Desk(), PlainDesk()
            for line in some_lines(seed, 60):
                due = plain.refusal(line)
                if due is None:
                    self.assertEqual(desk.say(line), plain.say(line), (seed, line))
                else:
                    refused.append(due)
                    with self.assertRaises(RankError) as caught:
                        desk.say(line)
                    self.assertIs(caught.exception.__class__, due, (seed, line))
                self.assertEqual(desk.say("order"), plain.say("order"))
                self.assertEqual(desk.say("rows"), plain.say("rows"))
            while plain.lines:
                self.assertEqual(desk.say("back"), plain.say("back"))
                self.assertEqual(desk.say("order"), plain.say("order"))
                self.assertEqual(desk.say("rows"), plain.say("rows"))
            with self.assertRaises(Bare):
                desk.say("back")
        for due in (NoThing, Ring, NoRow, Bare):
            self.assertIn(due, refused)


class RowsTakenAway(unittest.TestCase):
    def test_by_things(self):
        for line in ("things 3", "things 2", "things 1", "things 8"):
            desk = told(["things 3", "row 0 1 2", "row 2 1 0", line])
            self.assertEqual(desk.say("rows"), "none")
            self.assertEqual(desk.say("order"), line[-1])
            desk.say("back")
            self.assertEqual(desk.say("rows"), "0 1 2; 2 1 0")
            self.assertEqual(desk.say("order"), "3")

    def test_by_ahead(self):
        desk = told(["things 3", "ahead 0 1", "row 0 1 2", "row 2 0 1"])
        # The pair is there already, and stands again all the same.
        self.assertEqual(desk.say("ahead 0 1"), "1")
        self.assertEqual(desk.say("rows"), "none")
        self.assertEqual(desk.say("back"), "ok")
        self.assertEqual(desk.say("rows"), "0 1 2; 2 0 1")
        self.assertEqual(desk.say("ahead 1 2"), "3")
        self.assertEqual(desk.say("rows"), "none")
        self.assertEqual(desk.say("row 0 1 2"), "1")
        self.assertEqual(desk.say("back"), "ok")
        self.assertEqual(desk.say("back"), "ok")
        self.assertEqual(desk.say("rows"), "0 1 2; 2 0 1")
        self.assertEqual(desk.say("order"), "3 0<1")


class Back(unittest.TestCase):
    def test_step_by_step_to_the_first(self):
        lines = ["things 3", "ahead 0 1", "row 0 1 2", "row 2 0 1", "take", "row 0 2 1", "ahead 1 2", "row 0 1 2",
                 "take", "things 2", "ahead 1 0", "row 1 0", "things 2", "row 0 1", "row 1 0", "take", "take"]
        desk = Desk()
        states = [seen(desk)]
        for line in lines:
            desk.say(line)
            states.append(seen(desk))
        self.assertEqual(undone(desk), states[::-1])

    def test_each_of_the_four(self):
        for line in ("things 4", "ahead 1 2", "row 1 2 0", "take"):
            desk = told(["things 3", "ahead 2 0", "row 1 2 0", "row 2 0 1"])
            before = seen(desk)
            desk.say(line)
            self.assertNotEqual(seen(desk), before)
            self.assertEqual(desk.say("back"), "ok")
            self.assertEqual(seen(desk), before)

    def test_what_is_undone_stands_no_longer(self):
        desk = told(["things 2", "row 0 1", "row 1 0"])
        self.assertEqual(desk.say("back"), "ok")
        self.assertEqual(desk.say("rows"), "0 1")
        self.assertEqual(desk.say("row 0 1"), "2")
        self.assertEqual(desk.say("back"), "ok")
        self.assertEqual(desk.say("rows"), "0 1")
        self.assertEqual(desk.say("back"), "ok")
        self.assertEqual(desk.say("rows"), "none")
        self.assertEqual(desk.say("back"), "ok")
        self.assertEqual(desk.say("order"), "1")

    def test_a_row_taken_away_comes_again(self):
        desk = told(["things 2", "row 0 1", "row 1 0", "take", "take"])
        self.assertEqual(desk.say("back"), "ok")
        self.assertEqual(desk.say("rows"), "0 1")
        self.assertEqual(desk.say("back"), "ok")
        self.assertEqual(desk.say("rows"), "0 1; 1 0")
        self.assertEqual(desk.say("back"), "ok")
        self.assertEqual(desk.say("rows"), "0 1")

    def test_bare(self):
        desk = Desk()
        for line in ASKED:
            desk.say(line)
        with self.assertRaises(Bare):
            desk.say("back")
        desk.say("things 1")
        self.assertEqual(desk.say("back"), "ok")
        with self.assertRaises(Bare):
            desk.say("back")
        self.assertEqual(desk.say("things 2"), "ok")
        self.assertEqual(desk.say("order"), "2")

    def test_many_steps(self):
        desk = Desk()
        for step in range(2000):
            desk.say(f"things {1 + step % 8}")
        for step in range(1999):
            desk.say("back")
        self.assertEqual(desk.say("order"), "1")
        desk.say("back")
        with self.assertRaises(Bare):
            desk.say("back")


class Refused(unittest.TestCase):
    def refuse(self, lines, wrong, due):
        """The refusal comes, and neither what is seen nor a later back is changed by it."""
        desk = told(lines)
        for line in wrong:
            with self.subTest(line=line):
                before = seen(desk)
                with self.assertRaises(RankError) as caught:
                    desk.say(line)
                self.assertIs(caught.exception.__class__, due)
                self.assertEqual(seen(desk), before)
        self.assertEqual(undone(desk), undone(told(lines)))

    def test_no_thing(self):
        self.refuse([], ["ahead 0 1", "ahead 1 0", "ahead 1 1", "ahead 9 9"], NoThing)
        lines = ["things 3", "ahead 0 1", "row 0 1 2"]
        self.refuse(lines, ["ahead 0 3", "ahead 3 0", "ahead 3 3", "ahead 9 9", "ahead 8 1", "ahead 1 8"], NoThing)
        self.refuse(["things 8"], ["ahead 8 0", "ahead 0 8", "ahead 9 9", "ahead 8 8"], NoThing)

    def test_ring(self):
        self.refuse([], ["ahead 0 0"], Ring)
        lines = ["things 4", "ahead 0 1", "ahead 1 2", "row 0 1 2 3", "row 3 0 1 2"]
        wrong = ["ahead 0 0", "ahead 3 3", "ahead 1 0", "ahead 2 1", "ahead 2 0", "ahead 2 2"]
        self.refuse(lines, wrong, Ring)

    def test_no_row(self):
        self.refuse([], ["row 1", "row 0 0", "row 0 1", "row 9"], NoRow)
        lines = ["things 3", "ahead 0 1", "row 0 1 2"]
        wrong = ["row 0", "row 0 1", "row 1 0 2", "row 1 2 0", "row 2 1 0", "row 0 1 1", "row 0 0 1", "row 0 1 3",
                 "row 0 1 2 3", "row 0 1 2 0", "row 0 1 2 0 1 2", "row 9 8 7", "row 0 1 2 3 4 5 6 7 8 9"]
        self.refuse(lines, wrong, NoRow)
        self.refuse(["things 3"], ["row " + spaced([0, 1, 2] * 100)], NoRow)

    def test_too_many_behind_eight_rows(self):
        for lines in (["things 3", "ahead 0 1"], ["things 2"], []):
            desk = told(lines)
            rows = {3: ("0 1 2", "2 0 1"), 2: ("0 1", "1 0"), 1: ("0", "0")}[int(desk.say("order")[0])]
            lines = lines + ["row " + rows[at % 2] for at in range(8)]
            self.assertEqual([desk.say(line) for line in lines[-8:]], ["1", "2", "3", "4", "5", "6", "7", "8"])
            self.refuse(lines, ["row " + rows[0], "row " + rows[1]], TooMany)
            self.refuse(lines, ["row 0 0", "row 8", "row 0 1 2 3", "row " + rows[0] + " 9"], NoRow)
            self.refuse(lines, ["row", "row x", "row " + rows[0] + " x", "row 10"], NoLine)
            self.assertEqual(desk.say("take"), "7")
            self.assertEqual(desk.say("row " + rows[0]), "8")
            with self.assertRaises(TooMany):
                desk.say("row " + rows[0])

    def test_bare(self):
        self.refuse([], ["take", "back"], Bare)
        for lines in (["things 3"], ["things 3", "ahead 0 1"], ["things 2", "row 0 1", "take"],
                      ["things 2", "row 0 1", "things 2"], ["things 2", "row 0 1", "ahead 0 1"]):
            self.refuse(lines, ["take"], Bare)


class NoLines(unittest.TestCase):
    def refuse(self, lines):
        states = ([], ["things 3", "ahead 0 1", "row 0 1 2", "row 2 0 1", "take"])
        for told_first in states:
            desk = told(told_first)
            before = seen(desk)
            for line in lines:
                with self.subTest(line=line):
                    with self.assertRaises(NoLine):
                        desk.say(line)
                    self.assertEqual([desk.say("order"), desk.say("rows")], before[:2])
            self.assertEqual(undone(desk), undone(told(told_first)))

    def good_lines(self):
        return ["things 3", "ahead 0 1", "row 0 1 2", "row 0", "take", "back"] + list(ASKED)

    def test_no_text(self):
        wrong = [thing for thing in odd_things() if not isinstance(thing, str)]
        self.refuse(wrong + [0, 1, [], {}, ["order"], ("order",), {"order": "order"}, [["take"]], ["things", "3"],
                             ["things", 3], ("row", 0), ("things", 3)])

    def test_other_words(self):
        self.refuse([thing for thing in odd_things() if isinstance(thing, str) and thing != "order"])
        self.refuse(["thing", "thing 3", "undo", "orders", "row0", "none", "ok", "yes", "no", "0 1", "3", "forth",
                     "say order", "ahead", "things", "row", "say", "states", "ahead01", "kind", ";", "row 0 1 2;",
                     "row 0 1; row 1 0", "order;", "order\n", "\norder", "order\t", "\torder", "things\t3",
                     "things\n3", "things 3\n", "row 0 1\t2", "back back", "order order", "rows 0", "a" * 400])

    def test_words_left_out(self):
        self.refuse(["", "things", "3", "ahead", "ahead 0", "0 1", "row", "0 1 2", "0"])

    def test_words_put_in(self):
        for line in self.good_lines():
            words = line.split(" ")
            for more in ("x", "ok", "none", "10", "-1", "order", "row"):
                wrong = [" ".join(words[:at] + [more] + words[at:]) for at in range(len(words) + 1)]
                self.refuse(wrong + [f"0 {line}"])
            if words[0] != "row":
                self.refuse([line + " 0", line + " 1", line + " 0 1 2"])

    def test_blanks_more(self):
        for line in self.good_lines():
            wrong = [" " + line, line + " ", "  " + line, line + "  ", line.replace(" ", "  ", 1) + " "]
            if " " in line:
                wrong += [line.replace(" ", "  "), line.replace(" ", "  ", 1), line.replace(" ", ""),
                          line.replace(" ", "\t"), line.replace(" ", ",")]
            self.refuse(wrong)

    def test_great_letters(self):
        for line in self.good_lines():
            self.refuse([line.upper(), line[0].upper() + line[1:]])

    def test_numbers(self):
        wrong = ["10", "00", "01", "-1", "-0", "+1", "1.", "1,", "a", "x", "0x", "1 ", "", "<", "one", "None", "True",
                 "0<1", "1;", "\"1\"", "'1'", "(1)", "1" * 40]
        self.refuse([f"things {number}" for number in wrong + ["0", "9"]])
        for number in wrong:
            self.refuse([f"ahead {number} 0", f"ahead 0 {number}", f"row {number}", f"row {number} 0 1",
                         f"row 0 {number} 1", f"row 0 1 {number}"])

    def test_ahead_of_the_other_refusals(self):
        self.refuse(["ahead 9 x", "ahead x 9", "ahead 9 9 9", "ahead 0 10", "row 9 x", "row 0 0 10", "row 1 0 2 x",
                     "take 1", "take x", "back 1", "back back"])


class TwoDesks(unittest.TestCase):
    def test_nothing_in_common(self):
        first, second = Desk(), Desk()
        self.assertEqual(first.say("things 3"), "ok")
        self.assertEqual(second.say("order"), "1")
        with self.assertRaises(Bare):
            second.say("back")
        self.assertEqual(first.say("ahead 0 1"), "1")
        self.assertEqual(second.say("things 2"), "ok")
        self.assertEqual(first.say("order"), "3 0<1")
        self.assertEqual(first.say("row 0 1 2"), "1")
        self.assertEqual(second.say("rows"), "none")
        self.assertEqual(second.say("row 1 0"), "1")
        self.assertEqual(first.say("rows"), "0 1 2")
        self.assertEqual(first.say("back"), "ok")
        self.assertEqual(second.say("rows"), "1 0")
        self.assertEqual(second.say("back"), "ok")
        self.assertEqual(first.say("order"), "3 0<1")
        self.assertEqual(Desk().say("order"), "1")

    def test_lines_by_turns(self):
        for seed in range(12):
            lines = [some_lines(seed, 40), some_lines(seed + 100, 40)]
            alone = [self.answers(Desk(), some) for some in lines]
            desks = [Desk(), Desk()]
            both = [[], []]
            for step in range(40):
                for at in (0, 1):
                    both[at] += self.answers(desks[at], lines[at][step:step + 1])
            self.assertEqual(both, alone)

    def answers(self, desk, lines):
        found = []
        for line in lines:
            try:
                found.append(desk.say(line))
            except RankError as refused:
                found.append(refused.__class__)
        return found

    def test_the_same_asked_again(self):
        desk = told(["things 4", "ahead 0 2", "row 0 1 2 3", "row 3 1 0 2"])
        first = seen(desk)
        for step in range(3):
            self.assertEqual(seen(desk), first)


if __name__ == "__main__":
    unittest.main()
