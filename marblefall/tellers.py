"""Tellers: boards at which drops are let at some wheels, told by what their cups get."""

from marblefall.boards import has_parts, is_board, is_stand, is_wheel_number, is_within, need_stand
from marblefall.drains import need_drain
from marblefall.errors import NoBoard, NoMouths, NotAlike, NoWord
from marblefall.stands import fall, is_rising, need_few_stands
from marblefall.tables import solved_board

MOST_MOUTHS = 3
MOST_STANDS_PARTED = 60


def are_mouths(board, thing):
    """Whether it is a tuple of one to three numbers of wheels, of anything."""
    return has_parts(thing, 1, MOST_MOUTHS) and all([is_wheel_number(board, wheel) for wheel in thing])


def is_teller(thing):
    """Whether it is a teller, of anything."""
    if not has_parts(thing, 3, 3):
        return False
    board, stand, mouths = thing
    if not is_board(board) or solved_board(board) is None:
        return False
    return is_stand(board, stand) and are_mouths(board, mouths)


def need_teller(thing):
    """Refuse what is no teller, by what of it is wrong first."""
    if not has_parts(thing, 3, 3):
        raise NoBoard()
    board, stand, mouths = thing
    need_drain(board)
    need_stand(board, stand)
    if not are_mouths(board, mouths):
        raise NoMouths()


def is_word(teller, thing):
    """Whether it is a word of the teller, of anything."""
    last = len(teller[2]) - 1
    return isinstance(thing, tuple) and all([is_within(place, 0, last) for place in thing])


def need_word(teller, thing):
    """Refuse what is no word of the teller."""
    if not is_word(teller, thing):
        raise NoWord()


def gains_of(teller, word):
    """For each drop of the word the tuple of what each cup gets."""
    board, stand, mouths = teller
    known = {}
    found = []
    for place in word:
        stand, cups = fall(board, known, stand, mouths[place])
        found.append(cups)
    return tuple(found)


def told(teller, word):
    """For each drop of the word the tuple of what each cup gets."""
    need_teller(teller)
    need_word(teller, word)
    return gains_of(teller, word)


def need_two_tellers(one, other):
    """Refuse what parted and shows_parted refuse."""
    need_teller(one)
    need_teller(other)
    if len(one[2]) != len(other[2]) or one[0][1] != other[0][1]:
        raise NotAlike()
    need_few_stands(one[0], MOST_STANDS_PARTED)
    need_few_stands(other[0], MOST_STANDS_PARTED)


def pair_fall(one, other, known, pair, place):
    """The pair of stands behind a drop at the place, None where the cups of the tellers don't get the same.

    known, a tuple of two dicts that are empty at first, keeps what was found of the one and of the other.
    """
    stand, cups = fall(one[0], known[0], pair[0], one[2][place])
    other_stand, other_cups = fall(other[0], known[1], pair[1], other[2][place])
    return (stand, other_stand) if cups == other_cups else None


def parted(one, other):
    """("alike", pairs), or ("apart", word) of the shortest, of as short ones the least word that parts them."""
    need_two_tellers(one, other)
    known = ({}, {})
    start = (one[1], other[1])
    words = {start: ()}
    fresh = [start]
    # The pairs are come to in the order of their words, so the first word that parts is the one to be told.
    while fresh:
        later = []
        for pair in fresh:
            for place in range(len(one[2])):
                word = words[pair] + (place,)
                then = pair_fall(one, other, known, pair, place)
                if then is None:
                    return "apart", word
                if then not in words:
                    words[then] = word
                    later.append(then)
        fresh = later
    return "alike", tuple(sorted(words))


def is_pair(one, other, thing):
    """Whether it is a tuple of a stand of the one teller and a stand of the other, of anything."""
    return has_parts(thing, 2, 2) and is_stand(one[0], thing[0]) and is_stand(other[0], thing[1])


def keep_alike(one, other, pairs):
    """Whether they are a rising tuple of pairs of stands that shows the tellers alike, of anything."""
    if not isinstance(pairs, tuple) or not all([is_pair(one, other, pair) for pair in pairs]):
        return False
    inside = {pair: True for pair in pairs}
    if not is_rising(pairs) or (one[1], other[1]) not in inside:
        return False
    known = ({}, {})
    # None, which stands for cups that are not like, is no pair and so never inside.
    return all([
        pair_fall(one, other, known, pair, place) in inside for pair in pairs for place in range(len(one[2]))
    ])


def shows_parted(one, other, thing):
    """Whether it shows the tellers alike or apart, of anything."""
    need_two_tellers(one, other)
    if not has_parts(thing, 2, 2):
        return False
    kind, shown = thing
    if kind == "alike":
        return keep_alike(one, other, shown)
    if kind == "apart":
        return is_word(one, shown) and gains_of(one, shown) != gains_of(other, shown)
    return False
