"""The fewest rows that tell an order, papers of cases that bar fewer, and turns that cross."""

from rowsorder.basics import is_below, is_whole
from rowsorder.errors import NoNumber
from rowsorder.orders import need_order
from rowsorder.rows import masks_ahead, row_along
from rowsorder.turns import are_turns, goes_round, is_barred, is_turn, is_turned, leads_on, put_turn, ring_with
from rowsorder.turns import sharp_turns

MOST_ROWS = 8


def fewest(order):
    return len(fewest_rows(order))


def fewest_rows(order):
    need_order(order)
    count = 1
    found = cases(order, count)
    while found[0] != "rows":
        count = count + 1
        found = cases(order, count)
    return found[1]


def case_paper(order, count):
    need_order(order)
    need_count(count)
    found = cases(order, count)
    if found[0] == "rows":
        return None
    return found


def need_count(thing):
    if not is_whole(thing) or not 1 <= thing <= MOST_ROWS:
        raise NoNumber("this is no number of rows")


def cases(order, count):
    # Rows tell the order where each sharp turn is turned by one of them, so the others need no case.
    bare = (masks_ahead(order), ())
    return cases_on(order, sharp_turns(order), [bare] * count)


def cases_on(order, left, rows):
    # Told is ("rows", rows) where the rows can go on to turn all turns that are left, else a case paper.
    undone = [turn for turn in left if not any([is_turned(masks, turn) for masks, put in rows])]
    if len(undone) == 0:
        return ("rows", [row_along(masks, []) for masks, put in rows])
    turn = min(undone, key=lambda one: free_rows(rows, one))
    papers = []
    for number in range(len(rows)):
        found = case_of(order, undone, rows, number, turn)
        if found[0] == "rows":
            return found
        papers.append(found)
    return ("turn", turn, tuple(papers))


def free_rows(rows, turn):
    return len([masks for masks, put in rows if not is_barred(masks, turn)])


def case_of(order, left, rows, number, turn):
    masks = rows[number][0]
    put = rows[number][1]
    if is_barred(masks, turn):
        return ("ring", number, ring_with(order, put, turn))
    return cases_on(order, left, rows[:number] + [(put_turn(masks, turn), put + (turn,))] + rows[number + 1:])


def is_case_paper(thing, order, count):
    need_order(order)
    need_count(count)
    return bars(thing, order, [()] * count)


def bars(thing, order, puts):
    if not isinstance(thing, tuple) or len(thing) != 3:
        return False
    if thing[0] == "ring":
        return is_below(thing[1], len(puts)) and is_ring_of(thing[2], order, puts[thing[1]])
    if thing[0] != "turn" or not is_turn(thing[1], order):
        return False
    if not isinstance(thing[2], tuple) or len(thing[2]) != len(puts):
        return False
    for number, paper in enumerate(thing[2]):
        if not bars(paper, order, puts[:number] + [puts[number] + (thing[1],)] + puts[number + 1:]):
            return False
    return True


def is_ring_of(thing, order, put):
    return goes_round(thing, order) and all([turn in put for turn in thing])


def cross(order, turn, other):
    return leads_on(order, turn, other) and leads_on(order, other, turn)


def do_cross(thing, order):
    need_order(order)
    if not are_turns(thing, order):
        return False
    # No turn crosses itself, so one that stands twice is found here too.
    return all([cross_all(order, thing[at], thing[:at]) for at in range(len(thing))])


def cross_all(order, turn, others):
    return all([cross(order, turn, other) for other in others])


def most_cross(order):
    return crossing_from(order, [], sharp_turns(order))


def crossing_from(order, chosen, left):
    # For each turn there is a sharp one that a row turns only where it turns that one too, so sharp ones are enough.
    best = chosen
    for at, turn in enumerate(left):
        crossing = [other for other in left[at + 1:] if cross(order, turn, other)]
        found = crossing_from(order, chosen + [turn], crossing)
        if len(found) > len(best):
            best = found
    return best
