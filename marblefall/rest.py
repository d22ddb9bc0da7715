"""The ends of moments: at rest or never, and what shows it."""

from marblefall.boards import are_marbles, has_parts, is_moment, need_moment
from marblefall.drains import least_keeps, turns_handled
from marblefall.moments import fastened, handle_marble, is_row, loosened, walked
from marblefall.tables import solved_board, turn_ends


def turn_on(board, ends, parts, wheel, many):
    """Turn the wheel on so often, marbles there or not, in the lists that loosened gave; ends: what turn_ends tells."""
    wheels = board[0]
    stand, waiting, held = parts
    turns, single = divmod(many, len(wheels[wheel]))
    if turns > 0:
        waiting[wheel] -= turns * len(wheels[wheel])
        for end, times in enumerate(ends[wheel]):
            if end < len(wheels):
                waiting[end] += turns * times
            else:
                held[end - len(wheels)] += turns * times
    for place in range(single):
        handle_marble(board, parts, wheel)


def never_counts(board):
    """Counts of which each, once a row that is let has no fewer, shows that no rest comes; none where a board drains.

    They are those of whole turns by which to no wheel fewer come than are handled at it. Were there a rest behind
    more than these, so many fewer would be enough, too; but the counts at rest are the least that are enough.
    """
    if solved_board(board) is not None:
        return []
    return [turns_handled(board, turns) for turns in least_keeps(board)]


def first_reached(counts, nevers):
    """The first of the nevers that the counts reach at each wheel; None where they reach none."""
    for needed in nevers:
        if all([count >= need for count, need in zip(counts, needed)]):
            return needed
    return None


def gone_down(board, moment, nevers):
    """(counts, moment) behind a row that is let: at rest, or as soon as one of the nevers is seen to be reached."""
    ends = turn_ends(board)
    stand, waiting, held = loosened(moment)
    counts = [0] * len(waiting)
    while max(waiting) > 0 and first_reached(counts, nevers) is None:
        for wheel in range(len(board[0])):
            many = waiting[wheel]
            turn_on(board, ends, (stand, waiting, held), wheel, many)
            counts[wheel] += many
    return tuple(counts), fastened(stand, waiting, held)


def settled(board, moment):
    """(counts, moment) at rest; None where the moment never rests."""
    counts, last = gone_down(board, moment, never_counts(board))
    return (counts, last) if max(last[1]) == 0 else None


def row_to(board, moment, counts, needed):
    """A row, let from the moment, in which each wheel stands as often as needed; counts: those of some such row."""
    stand, waiting, held = loosened(moment)
    done = [0] * len(waiting)
    row = []
    while first_reached(done, [needed]) is None:
        # One of these there always is: the first one at which the row of the counts goes beyond what is done.
        ready = [wheel for wheel, count in enumerate(counts) if waiting[wheel] > 0 and done[wheel] < count]
        chosen = min(ready, key=lambda wheel: (done[wheel] >= needed[wheel], done[wheel]))
        handle_marble(board, (stand, waiting, held), chosen)
        done[chosen] += 1
        row.append(chosen)
    return row


def last_ones(row, needed):
    """Of each wheel the last ones in the row, as many as needed, in their order."""
    left = list(needed)
    found = []
    for wheel in reversed(row):
        if left[wheel] > 0:
            left[wheel] -= 1
            found.append(wheel)
    return found[::-1]


def end_of(board, moment):
    """("rests", counts, moment) or ("never", ahead, round), whichever is so."""
    need_moment(board, moment)
    nevers = never_counts(board)
    counts, last = gone_down(board, moment, nevers)
    if max(last[1]) == 0:
        return "rests", counts, last
    needed = first_reached(counts, nevers)
    ahead = row_to(board, moment, counts, needed)
    # They are let once more: ahead of each the wheels are whole turns on from where they were when it was let first,
    # and by these turns to no wheel fewer came than were handled at it.
    return "never", tuple(ahead), tuple(last_ones(ahead, needed))


def shows_rest(board, moment, counts, last):
    """Whether these are the counts to rest and the moment there, of anything."""
    if not are_marbles(counts, len(board[0])) or not is_moment(board, last):
        return False
    return settled(board, moment) == (counts, last)


def shows_never(board, moment, ahead, again):
    """Whether the one is a row that is let from the moment, the other a round behind it, of anything."""
    if not is_row(board, ahead) or not is_row(board, again) or again == ():
        return False
    wrong, first = walked(board, moment, ahead)
    if wrong is not None:
        return False
    wrong, last = walked(board, first, again)
    if wrong is not None or last[0] != first[0]:
        return False
    return all([now >= before for now, before in zip(last[1], first[1])])


def is_end(board, moment, thing):
    """Whether it is an end of the moment, of anything."""
    need_moment(board, moment)
    if not has_parts(thing, 3, 3):
        return False
    word, one, other = thing
    if word == "rests":
        return shows_rest(board, moment, one, other)
    if word == "never":
        return shows_never(board, moment, one, other)
    return False


def is_enough(board, moment, thing):
    """Whether they are counts that are enough for the moment, of anything."""
    need_moment(board, moment)
    stand, waiting, held = loosened(moment)
    if not are_marbles(thing, len(waiting)):
        return False
    ends = turn_ends(board)
    for wheel, many in enumerate(thing):
        turn_on(board, ends, (stand, waiting, held), wheel, many)
    return max(waiting) <= 0
