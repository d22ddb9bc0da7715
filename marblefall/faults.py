"""Faults of tellers: which there are, what they make of a teller, and which fit what is seen."""

from marblefall.boards import are_marbles, has_parts, is_whole
from marblefall.errors import NoFault, NoSeen
from marblefall.stands import fall
from marblefall.tables import turn_ends
from marblefall.tellers import need_teller, need_word, parted


def lame_ones(board):
    """The faults by which a step with ends has none any more, rising."""
    return [
        ("lame", wheel, step) for wheel, steps in enumerate(board[0]) for step, ends in enumerate(steps) if ends != ()
    ]


def blocked_ones(board):
    """The faults by which an end stands in no step any more, rising."""
    wheels, cups = board
    lines = turn_ends(board)
    return [("blocked", end) for end in range(len(wheels) + cups) if max([line[end] for line in lines]) > 0]


def off_ones(board, stand):
    """The faults by which a wheel is at another step, rising."""
    return [
        ("off", wheel, step) for wheel, steps in enumerate(board[0]) for step in range(len(steps))
        if step != stand[wheel]
    ]


def faults_of(teller):
    """All faults of what is a teller, in their order."""
    board, stand, mouths = teller
    return [None] + lame_ones(board) + blocked_ones(board) + off_ones(board, stand)


def all_faults(teller):
    """The tuple of all faults: None, then the lame ones, the blocked ones, the off ones."""
    need_teller(teller)
    return tuple(faults_of(teller))


def is_fault(teller, thing):
    """Whether it is a fault of the teller, of anything."""
    need_teller(teller)
    if thing is None:
        return True
    # A truth is == to a number, but it is none.
    return isinstance(thing, tuple) and all([is_whole(part) for part in thing[1:]]) and thing in faults_of(teller)


def need_fault(teller, thing):
    """Refuse what is no fault of the teller."""
    if not is_fault(teller, thing):
        raise NoFault()


def put_at(things, place, thing):
    """The tuple with another thing at the place."""
    return things[:place] + (thing,) + things[place + 1:]


def without_end(wheels, end):
    """The wheels with the end in none of their steps."""
    return tuple([tuple([tuple([one for one in step if one != end]) for step in steps]) for steps in wheels])


def faulty(teller, fault):
    """What is a teller with what is a fault of it."""
    if fault is None:
        return teller
    board, stand, mouths = teller
    wheels, cups = board
    if fault[0] == "blocked":
        return (without_end(wheels, fault[1]), cups), stand, mouths
    kind, wheel, step = fault
    if kind == "lame":
        return (put_at(wheels, wheel, put_at(wheels[wheel], step, ())), cups), stand, mouths
    return board, put_at(stand, wheel, step), mouths


def with_fault(teller, fault):
    """The teller with the fault."""
    need_teller(teller)
    need_fault(teller, fault)
    return faulty(teller, fault)


def is_seen(teller, word, thing):
    """Whether it is a tuple with, for each drop of the word, a tuple with a number for each cup, of anything."""
    cups = teller[0][1]
    return has_parts(thing, len(word), len(word)) and all([are_marbles(gains, cups) for gains in thing])


def tells_just(teller, word, seen):
    """Whether the cups get by the word just what is seen."""
    board, stand, mouths = teller
    known = {}
    for place, gains in zip(word, seen):
        stand, cups = fall(board, known, stand, mouths[place])
        if cups != gains:
            return False
    return True


def fitting(teller, word, seen):
    """The tuple of all faults, in their order, with which the word tells just what is seen."""
    need_teller(teller)
    need_word(teller, word)
    if not is_seen(teller, word, seen):
        raise NoSeen()
    return tuple([fault for fault in faults_of(teller) if tells_just(faulty(teller, fault), word, seen)])


def parting(teller, one, other):
    """What parted tells of the teller with the one fault and of the teller with the other."""
    need_teller(teller)
    need_fault(teller, one)
    need_fault(teller, other)
    return parted(faulty(teller, one), faulty(teller, other))
