"""What all files lean on: is a thing of whatever kind a number, a pair, a line of things."""

MOST_THINGS = 8


def is_whole(thing):
    return isinstance(thing, int) and not isinstance(thing, bool)


def is_below(thing, bound):
    return is_whole(thing) and 0 <= thing < bound


def is_many(thing):
    return is_whole(thing) and 1 <= thing <= MOST_THINGS


def is_pair(thing, many):
    if not isinstance(thing, tuple) or len(thing) != 2:
        return False
    return is_below(thing[0], many) and is_below(thing[1], many)


def is_line(thing, many):
    if not isinstance(thing, tuple) or len(thing) != many:
        return False
    # Only whole numbers may reach the set: a list or a dict can't stand in one.
    return all([is_below(one, many) for one in thing]) and len(set(thing)) == many


def every_pair(many):
    return [(number // many, number % many) for number in range(many * many)]
