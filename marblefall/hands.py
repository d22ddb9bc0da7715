"""Marbles handled beat by beat, by several hands at once."""

from marblefall.boards import is_within, need_moment
from marblefall.errors import NoHands, NoNumber
from marblefall.moments import handle_marble, loosened
from marblefall.rest import settled

MOST_HANDS = 6
MOST_ROWS = 500


def need_hands(thing):
    """Refuse what is no number of hands."""
    if not is_within(thing, 1, MOST_HANDS):
        raise NoHands()


def handle_beat(board, parts, hands):
    """Handle the marbles of a beat, in the lists that loosened gave, and tell the row of their wheels."""
    row = tuple([wheel for wheel, many in enumerate(parts[1]) if many > 0][:hands])
    for wheel in row:
        handle_marble(board, parts, wheel)
    return row


def rounds_more(first, last, least):
    """How often beats that led back to their stand come again just so: while the same wheels have marbles at each.

    first and last are what waited ahead of them and behind, least the least at each wheel as one of them began.
    """
    times = []
    for before, now, low in zip(first, last, least):
        if now != before and low == 0:
            return 0
        if now < before:
            times.append((low - 1) // (before - now))
    # Somewhere fewer wait than before, or they would come again for ever.
    return min(times)


def beats_to_rest(board, moment, hands):
    """How many beats there are until the moment, which is not one that never does, rests."""
    stand, waiting, held = loosened(moment)
    done = 0
    span = 1
    mark = (done, list(stand), list(waiting))
    least = list(waiting)
    while max(waiting) > 0:
        least = [min(low, many) for low, many in zip(least, waiting)]
        handle_beat(board, (stand, waiting, held), hands)
        done += 1
        times = 0
        # Where thousands wait the same beats come again and again: they are not gone through one by one.
        if stand == mark[1]:
            times = rounds_more(mark[2], waiting, least)
            done += times * (done - mark[0])
            waiting = [now + times * (now - before) for before, now in zip(mark[2], waiting)]
        if times > 0 or done - mark[0] >= span:
            span = 1 if times > 0 else 2 * span
            mark = (done, list(stand), list(waiting))
            least = list(waiting)
    return done


def beats(board, moment, *, hands=1):
    """The number of beats until the moment rests, None where it never does."""
    need_moment(board, moment)
    need_hands(hands)
    found = settled(board, moment)
    if found is None:
        return None
    # One hand handles one marble a beat.
    return sum(found[0]) if hands == 1 else beats_to_rest(board, moment, hands)


def rows_of(board, moment, many, *, hands=1):
    """The tuple of rows, beat by beat, of the first so many beats, fewer where it rests ahead of that."""
    need_moment(board, moment)
    if not is_within(many, 0, MOST_ROWS):
        raise NoNumber()
    need_hands(hands)
    stand, waiting, held = loosened(moment)
    rows = []
    while len(rows) < many and max(waiting) > 0:
        rows.append(handle_beat(board, (stand, waiting, held), hands))
    return tuple(rows)
