"""Turns of an order: all, the sharp ones, rings of them, and a row that turns several together."""

from rowsorder.basics import every_pair, is_pair
from rowsorder.errors import NoTurns
from rowsorder.orders import are_apart, need_order
from rowsorder.rows import masks_ahead, row_along, with_thing


def turns(order):
    need_order(order)
    return [(a, b) for a, b in every_pair(order[0]) if are_apart(order, a, b)]


def sharp_turns(order):
    return [(a, b) for a, b in turns(order) if is_sharp(order, a, b)]


def is_sharp(order, a, b):
    pairs = order[1]
    if not all([(one, b) in pairs for one, other in pairs if other == a]):
        return False
    return all([(a, other) in pairs for one, other in pairs if one == b])


def is_turn(thing, order):
    return is_pair(thing, order[0]) and are_apart(order, thing[0], thing[1])


def are_turns(thing, order):
    return isinstance(thing, list) and all([is_turn(turn, order) for turn in thing])


def leads_on(order, turn, other):
    return turn[0] == other[1] or (turn[0], other[1]) in order[1]


def is_ring(thing, order):
    need_order(order)
    return goes_round(thing, order)


def goes_round(thing, order):
    if not are_turns(thing, order) or len(thing) == 0:
        return False
    # At 0 the one ahead is the last one, as a ring asks.
    return all([leads_on(order, thing[at - 1], thing[at]) for at in range(len(thing))])


def together(order, some):
    need_order(order)
    if not are_turns(some, order):
        raise NoTurns("this is no list of turns of the order")
    masks = masks_ahead(order)
    put = []
    for turn in some:
        if is_barred(masks, turn):
            return ("ring", ring_with(order, put, turn))
        masks = put_turn(masks, turn)
        put.append(turn)
    return ("row", row_along(masks, []))


def is_ahead(masks, a, b):
    return with_thing(masks[b], a) == masks[b]


def is_turned(masks, turn):
    return is_ahead(masks, turn[1], turn[0])


def is_barred(masks, turn):
    return is_ahead(masks, turn[0], turn[1])


def put_turn(masks, turn):
    # Whatever stands behind the turn's first thing comes behind its second one too, and behind all ahead of that.
    late = [thing for thing in range(len(masks)) if thing == turn[0] or is_ahead(masks, turn[0], thing)]
    more = with_thing(masks[turn[1]], turn[1])
    return [mask | more if thing in late else mask for thing, mask in enumerate(masks)]


def ring_with(order, put, turn):
    # Asked only where the turns put bar the turn: so they lead from it back to it, and the search ends.
    paths = [[turn]]
    left = put
    at = 0
    while not leads_on(order, paths[at][-1], turn):
        fresh = [other for other in left if leads_on(order, paths[at][-1], other)]
        left = [other for other in left if other not in fresh]
        paths.extend([paths[at] + [other] for other in fresh])
        at = at + 1
    return paths[at]
