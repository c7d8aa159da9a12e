"""Orders: told from what is none, closed from pairs, looked at thing by thing."""

from rowsorder.basics import every_pair, is_below, is_many, is_pair
from rowsorder.errors import NoMany, NoOrder, NoPairs, NoThing, Ring


def is_order(thing):
    if not isinstance(thing, tuple) or len(thing) != 2:
        return False
    many = thing[0]
    pairs = thing[1]
    if not is_many(many) or not isinstance(pairs, tuple):
        return False
    if not all([is_pair(pair, many) for pair in pairs]):
        return False
    # What is closed comes rising and none twice, so being alike asks for all three.
    return pairs == closed(many, pairs) and not has_ring(pairs)


def order_of(many, pairs):
    if not is_many(many):
        raise NoMany("this is no number of things")
    if not isinstance(pairs, list) or not all([is_pair(pair, many) for pair in pairs]):
        raise NoPairs("this is no list of pairs of things")
    whole = closed(many, pairs)
    if has_ring(whole):
        raise Ring("these pairs lead from a thing to itself")
    return (many, whole)


def closed(many, pairs):
    corners = every_pair(many)
    leads = [[False] * many for start in range(many)]
    for a, b in pairs:
        leads[a][b] = True
    for middle in range(many):
        for a, b in corners:
            if leads[a][middle] and leads[middle][b]:
                leads[a][b] = True
    return tuple([(a, b) for a, b in corners if leads[a][b]])


def has_ring(pairs):
    return any([a == b for a, b in pairs])


def need_order(thing):
    if not is_order(thing):
        raise NoOrder("this is no order")


def need_order_and_thing(order, thing):
    need_order(order)
    if not is_below(thing, order[0]):
        raise NoThing("this is no thing of the order")


def ahead(order, thing):
    need_order_and_thing(order, thing)
    return [a for a, b in order[1] if b == thing]


def behind(order, thing):
    need_order_and_thing(order, thing)
    return [b for a, b in order[1] if a == thing]


def apart(order, thing):
    need_order_and_thing(order, thing)
    met = ahead(order, thing) + [thing] + behind(order, thing)
    return [other for other in range(order[0]) if other not in met]


def are_apart(order, a, b):
    return a != b and (a, b) not in order[1] and (b, a) not in order[1]


def next_pairs(order):
    need_order(order)
    return [(a, b) for a, b in order[1] if not is_parted(order, a, b)]


def is_parted(order, a, b):
    pairs = order[1]
    return any([(a, middle) in pairs and (middle, b) in pairs for middle in range(order[0])])


def turned(order):
    need_order(order)
    return (order[0], tuple(sorted([(b, a) for a, b in order[1]])))
