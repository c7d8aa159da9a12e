"""Orders as texts: written by their next pairs, and read back."""

from rowsorder.basics import is_many, is_pair
from rowsorder.errors import NoText
from rowsorder.orders import closed, is_order, next_pairs

FIGURES = "0123456789"


def show_order(order):
    words = [f"{a}<{b}" for a, b in next_pairs(order)]
    return " ".join([str(order[0])] + words)


def read_order(text):
    if not isinstance(text, str):
        raise NoText(0)
    words = text.split(" ")
    many = read_figure(words[0])
    if not is_many(many):
        raise NoText(0)
    pairs = read_pairs(words, many)
    order = (many, closed(many, pairs))
    # Pairs that make a ring close to what is no order, so that is asked first.
    if not is_order(order) or next_pairs(order) != pairs:
        raise NoText(len(words))
    return order


def read_pairs(words, many):
    pairs = []
    for at in range(1, len(words)):
        pair = read_pair(words[at], many)
        if pair is None:
            raise NoText(at)
        if pairs and pair <= pairs[-1]:
            raise NoText(at)
        pairs.append(pair)
    return pairs


def read_pair(word, many):
    if len(word) != 3 or word[1] != "<":
        return None
    pair = (read_figure(word[0]), read_figure(word[2]))
    if not is_pair(pair, many) or pair[0] == pair[1]:
        return None
    return pair


def read_figure(word):
    # Looked for as it is, an empty or a longer word would be found among the figures.
    if len(word) != 1:
        return -1
    return FIGURES.find(word)
