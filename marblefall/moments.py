"""Marbles handled, one or a row of them."""

from marblefall.boards import is_wheel_number, need_board, need_moment, need_wheel
from marblefall.errors import NoRow, NotNow


def loosened(moment):
    """The parts of a moment as new lists, so that a long row needn't make a moment at each place."""
    stand, waiting, held = moment
    return list(stand), list(waiting), list(held)


def fastened(stand, waiting, held):
    """The moment of these lists."""
    return tuple(stand), tuple(waiting), tuple(held)


def handle_marble(board, parts, wheel):
    """Handle a marble that waits at the wheel, in the lists that loosened gave."""
    wheels = board[0]
    stand, waiting, held = parts
    step = stand[wheel]
    waiting[wheel] -= 1
    for end in wheels[wheel][step]:
        if end < len(wheels):
            waiting[end] += 1
        else:
            held[end - len(wheels)] += 1
    stand[wheel] = (step + 1) % len(wheels[wheel])


def handled(board, moment, wheel):
    """The moment behind a marble handled at the wheel."""
    need_moment(board, moment)
    need_wheel(board, wheel)
    stand, waiting, held = loosened(moment)
    if waiting[wheel] == 0:
        raise NotNow()
    handle_marble(board, (stand, waiting, held), wheel)
    return fastened(stand, waiting, held)


def rests(board, moment):
    """Whether no marble waits."""
    need_moment(board, moment)
    return all([many == 0 for many in moment[1]])


def is_row(board, thing):
    """Whether it is a row of what is a board, of anything."""
    return isinstance(thing, tuple) and all([is_wheel_number(board, wheel) for wheel in thing])


def need_row(board, thing):
    """Refuse what is no row of what is a board."""
    if not is_row(board, thing):
        raise NoRow()


def walked(board, moment, row):
    """(place, moment): the first place at which no marble waits, or None, and the moment come to."""
    stand, waiting, held = loosened(moment)
    for place, wheel in enumerate(row):
        if waiting[wheel] == 0:
            return place, fastened(stand, waiting, held)
        handle_marble(board, (stand, waiting, held), wheel)
    return None, fastened(stand, waiting, held)


def first_wrong(board, moment, row):
    """The first place of the row at which no marble waits at the wheel; None where it is let."""
    need_moment(board, moment)
    need_row(board, row)
    return walked(board, moment, row)[0]


def is_let(board, moment, row):
    """Whether marbles may be handled at the wheels of the row, one behind the other."""
    return first_wrong(board, moment, row) is None


def behind(board, moment, row):
    """The moment behind a row that is let."""
    need_moment(board, moment)
    need_row(board, row)
    place, last = walked(board, moment, row)
    if place is not None:
        raise NoRow()
    return last


def counts_of(board, row):
    """For each wheel of the board how often it stands in the row."""
    need_board(board)
    need_row(board, row)
    return tuple([row.count(wheel) for wheel in range(len(board[0]))])
