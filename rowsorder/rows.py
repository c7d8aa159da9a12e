"""Rows of an order: told, counted, numbered, and what several of them tell together."""

from rowsorder.basics import every_pair, is_below, is_line, is_many
from rowsorder.errors import NoMany, NoNumber, NoRow, NoRows
from rowsorder.orders import need_order


def is_row(thing, order):
    need_order(order)
    return keeps_order(thing, order)


def keeps_order(thing, order):
    if not is_line(thing, order[0]):
        return False
    place = places(thing)
    return all([place[a] < place[b] for a, b in order[1]])


def places(row):
    found = [0] * len(row)
    for place, thing in enumerate(row):
        found[thing] = place
    return found


def rows_many(order):
    need_order(order)
    return ways_on(masks_ahead(order))[0]


def nth_row(order, number):
    need_order(order)
    masks = masks_ahead(order)
    ways = ways_on(masks)
    if not is_below(number, ways[0]):
        raise NoNumber("this is no number of a row of the order")
    row = []
    placed = 0
    left = number
    for step in range(order[0]):
        choice = choose(masks, ways, placed, left)
        row.append(choice[0])
        placed = with_thing(placed, choice[0])
        left = choice[1]
    return tuple(row)


def choose(masks, ways, placed, left):
    # Rows that begin with a lesser thing come first: they are counted off, not walked.
    free = free_things(masks, placed)
    at = 0
    while left >= ways[with_thing(placed, free[at])]:
        left = left - ways[with_thing(placed, free[at])]
        at = at + 1
    return (free[at], left)


def with_thing(placed, thing):
    return placed | (1 << thing)


def rank_of(order, row):
    need_order(order)
    if not keeps_order(row, order):
        raise NoRow("this is no row of the order")
    masks = masks_ahead(order)
    ways = ways_on(masks)
    rank = 0
    placed = 0
    for thing in row:
        lesser = [other for other in free_things(masks, placed) if other < thing]
        rank = rank + sum([ways[with_thing(placed, other)] for other in lesser])
        placed = with_thing(placed, thing)
    return rank


def masks_ahead(order):
    masks = [0] * order[0]
    for a, b in order[1]:
        masks[b] = with_thing(masks[b], a)
    return masks


def free_things(masks, placed):
    free = []
    for thing, mask in enumerate(masks):
        if with_thing(placed, thing) != placed and (placed & mask) == mask:
            free.append(thing)
    return free


def row_along(masks, late):
    # A thing of late is placed only where no other thing is free.
    row = []
    placed = 0
    while len(row) < len(masks):
        free = free_things(masks, placed)
        early = [thing for thing in free if thing not in late]
        row.append((early + free)[0])
        placed = with_thing(placed, row[-1])
    return tuple(row)


def ways_on(masks):
    # At each set of placed things, as bits: how many ways a row can go on from there.
    full = (1 << len(masks)) - 1
    ways = [0] * full + [1]
    for placed in range(full - 1, -1, -1):
        ways[placed] = sum([ways[with_thing(placed, thing)] for thing in free_things(masks, placed)])
    return ways


def told_by(many, rows):
    if not is_many(many):
        raise NoMany("this is no number of things")
    if not isinstance(rows, list) or len(rows) == 0:
        raise NoRows("this is no list of one row or more")
    if not all([is_line(row, many) for row in rows]):
        raise NoRows("not each of these is a row of all things")
    return (many, shared_pairs(many, rows))


def shared_pairs(many, rows):
    tables = [places(row) for row in rows]
    return tuple([(a, b) for a, b in every_pair(many) if stands_ahead(tables, a, b)])


def stands_ahead(tables, a, b):
    return all([place[a] < place[b] for place in tables])


def are_rows(thing, order):
    if not isinstance(thing, list) or len(thing) == 0:
        return False
    return all([keeps_order(row, order) for row in thing])


def tell(thing, order):
    need_order(order)
    return are_rows(thing, order) and shared_pairs(order[0], thing) == order[1]


def first_left(order, rows):
    need_order(order)
    if not are_rows(rows, order):
        raise NoRows("this is no list of one row of the order or more")
    # Rows of the order have its pairs in common; a pair beyond these is a turn that none turns.
    for pair in shared_pairs(order[0], rows):
        if pair not in order[1]:
            return pair
    return None
