"""Drops on boards that drain: where they lead, and which stands come again."""

from marblefall.boards import are_marbles, has_parts, is_stand, is_within, need_stand, need_wheel
from marblefall.drains import need_drain
from marblefall.errors import NoAgain, NoDrops, NoNumber, TooMany
from marblefall.rest import gone_down
from marblefall.tables import solved_board

MOST_STANDS = 600
MOST_DROPPED = 20
MOST_FAR = 10 ** 12


def stands_in_all(board):
    """How many stands the board has."""
    many = 1
    for steps in board[0]:
        many *= len(steps)
    return many


def need_few_stands(board, most=MOST_STANDS):
    """Refuse a board of more stands than are gone through."""
    many = stands_in_all(board)
    if many > most:
        raise TooMany(many, most)


def are_drops(board, thing, most):
    """Whether it is a tuple with, for each wheel, a number of drops from 0 to the most."""
    return are_marbles(thing, len(board[0])) and max(thing) <= most


def dropped(board, stand, drops):
    """(stand, counts, cups) behind the drops."""
    need_drain(board)
    need_stand(board, stand)
    if not are_drops(board, drops, MOST_DROPPED):
        raise NoDrops()
    counts, last = gone_down(board, (stand, drops, (0,) * board[1]), [])
    return last[0], counts, last[2]


def begun(board, stand, wheel):
    """A drop whose marble was just handled: where it began, the stand now, what each cup got, ends still to go to."""
    wheels, cups = board
    step = stand[wheel]
    turned = stand[:wheel] + ((step + 1) % len(wheels[wheel]),) + stand[wheel + 1:]
    return [(stand, wheel), turned, (0,) * cups, wheels[wheel][step]]


def together(some, others):
    """The numbers of both, place by place, together."""
    return tuple([one + other for one, other in zip(some, others)])


def one_more(numbers, place):
    """The numbers and one more at the place."""
    return numbers[:place] + (numbers[place] + 1,) + numbers[place + 1:]


def fall(board, known, stand, wheel):
    """(stand, cups) behind a drop at the wheel; known, a dict that is empty at first, keeps what was found.

    A marble that comes to a wheel is a drop of its own, at rest ahead of the next one. None waits for itself, or there
    would be no rest.
    """
    drops = [] if (stand, wheel) in known else [begun(board, stand, wheel)]
    while drops:
        place, now, cups, ends = drops[-1]
        if ends == ():
            known[place] = (now, cups)
            drops.pop()
        elif ends[0] >= len(stand):
            drops[-1] = [place, now, one_more(cups, ends[0] - len(stand)), ends[1:]]
        elif (now, ends[0]) in known:
            then, gains = known[(now, ends[0])]
            drops[-1] = [place, then, together(cups, gains), ends[1:]]
        else:
            drops.append(begun(board, now, ends[0]))
    return known[(stand, wheel)]


def path_of(board, known, stand, wheel):
    """(stands, place): all that drops at the wheel come to, in order, and the place of the one behind the last one."""
    places = {}
    stands = []
    while stand not in places:
        places[stand] = len(stands)
        stands.append(stand)
        stand = fall(board, known, stand, wheel)[0]
    return stands, places[stand]


def cups_along(board, known, stands, wheel):
    """What each cup gets by a drop at the wheel at each of the stands."""
    cups = (0,) * board[1]
    for stand in stands:
        cups = together(cups, fall(board, known, stand, wheel)[1])
    return cups


def far_fall(board, known, stand, wheel, many):
    """(stand, cups) behind so many drops at the wheel."""
    stands, ahead = path_of(board, known, stand, wheel)
    if many < ahead:
        return stands[many], cups_along(board, known, stands[:many], wheel)
    rounds, more = divmod(many - ahead, len(stands) - ahead)
    once = cups_along(board, known, stands[:ahead + more], wheel)
    each = cups_along(board, known, stands[ahead:], wheel)
    return stands[ahead + more], tuple([one + rounds * other for one, other in zip(once, each)])


def come_to(board, known, stand):
    """The rising tuple of all stands that are come to from the stand by drops, itself among them."""
    found = {stand: True}
    fresh = [stand]
    while fresh:
        now = fresh.pop()
        for wheel in range(len(board[0])):
            then = fall(board, known, now, wheel)[0]
            if then not in found:
                found[then] = True
                fresh.append(then)
    return tuple(sorted(found))


def again_stands(board, known):
    """The rising tuple of all stands that come again."""
    stand = (0,) * len(board[0])
    # A drop at each wheel, so often as there are stands, leads into a round of such drops. What is in it comes again,
    # as drops at whichever wheels are made up for by the rest of some rounds; and from anywhere it is come to.
    for lap in range(stands_in_all(board)):
        for wheel in range(len(board[0])):
            stand = fall(board, known, stand, wheel)[0]
    return come_to(board, known, stand)


def all_again(board):
    """The rising tuple of all stands that come again."""
    need_drain(board)
    need_few_stands(board)
    return again_stands(board, {})


def is_again(board, stand):
    """Whether the stand comes again."""
    need_drain(board)
    need_stand(board, stand)
    need_few_stands(board)
    return stand in again_stands(board, {})


def how_many(board):
    """How many stands come again, without going through them."""
    need_drain(board)
    return solved_board(board)[0]


def back(board, stand, wheel):
    """The stand that comes again from which a drop at the wheel leads to this one, which comes again."""
    need_drain(board)
    need_stand(board, stand)
    need_wheel(board, wheel)
    need_few_stands(board)
    known = {}
    if stand not in again_stands(board, known):
        raise NoAgain()
    # Drops at one wheel lead from a stand that comes again round to itself.
    return path_of(board, known, stand, wheel)[0][-1]


def round_of(board, stand, wheel):
    """(ahead, round): after how many drops at the wheel the stands go round, and how many then come by turns."""
    need_drain(board)
    need_stand(board, stand)
    need_wheel(board, wheel)
    stands, ahead = path_of(board, {}, stand, wheel)
    return ahead, len(stands) - ahead


def led_far(board, stand, wheel, many):
    """(stand, cups) behind so many drops at the wheel."""
    need_drain(board)
    need_stand(board, stand)
    need_wheel(board, wheel)
    if not is_within(many, 0, MOST_FAR):
        raise NoNumber()
    return far_fall(board, {}, stand, wheel, many)


def need_two_stands(board, stand, other):
    """Refuse what least_drops and shows_drops refuse."""
    need_drain(board)
    need_stand(board, stand)
    need_stand(board, other)
    need_few_stands(board)


def next_ways(board, known, ways, fresh):
    """Of each stand without a way that a drop from a fresh one leads to, the least drops of those one longer."""
    found = {}
    for stand in fresh:
        for wheel in range(len(board[0])):
            then = fall(board, known, stand, wheel)[0]
            drops = one_more(ways[stand], wheel)
            if then not in ways and (then not in found or drops < found[then]):
                found[then] = drops
    return found


def least_drops(board, stand, other):
    """("drops", drops) that lead from the stand to the other one, or ("closed", stands) where none do."""
    need_two_stands(board, stand, other)
    known = {}
    ways = {stand: (0,) * len(stand)}
    fresh = [stand]
    while fresh and other not in ways:
        found = next_ways(board, known, ways, fresh)
        fresh = list(found)
        for then in fresh:
            ways[then] = found[then]
    if other in ways:
        return "drops", ways[other]
    return "closed", tuple(sorted(ways))


def lead_to(board, stand, other, drops):
    """Whether they are drops that lead from the stand to the other one, of anything."""
    if not are_drops(board, drops, MOST_FAR):
        return False
    known = {}
    now = stand
    for wheel, many in enumerate(drops):
        now = far_fall(board, known, now, wheel, many)[0]
    return now == other


def is_rising(things):
    """Whether each is greater than the one ahead."""
    return all([one < other for one, other in zip(things, things[1:])])


def keep_apart(board, stand, other, stands):
    """Whether they are a rising tuple of stands, the one among them, the other not, which no drop leaves."""
    if not isinstance(stands, tuple) or not all([is_stand(board, one) for one in stands]):
        return False
    if not is_rising(stands) or stand not in stands or other in stands:
        return False
    known = {}
    inside = {one: True for one in stands}
    return all([fall(board, known, one, wheel)[0] in inside for one in stands for wheel in range(len(one))])


def shows_drops(board, stand, other, thing):
    """Whether it shows drops that lead from the stand to the other one, or that none do, of anything."""
    need_two_stands(board, stand, other)
    if not has_parts(thing, 2, 2):
        return False
    word, told = thing
    if word == "drops":
        return lead_to(board, stand, other, told)
    if word == "closed":
        return keep_apart(board, stand, other, told)
    return False
