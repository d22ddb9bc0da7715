"""Boards, their stands and their moments: what is one, and the refusal of what is none."""

from marblefall.errors import NoBoard, NoMoment, NoStand, NoWheel

MOST_WHEELS = 6
MOST_CUPS = 4
MOST_STEPS = 4
MOST_ENDS = 3


def is_whole(thing):
    """Whether it is a whole number."""
    # Python counts True and False among the ints; the document doesn't.
    return isinstance(thing, int) and not isinstance(thing, bool)


def is_within(thing, least, most):
    """Whether it is a whole number from least to most."""
    return is_whole(thing) and least <= thing <= most


def has_parts(thing, least, most):
    """Whether it is a tuple of least to most parts."""
    return isinstance(thing, tuple) and least <= len(thing) <= most


def is_step(thing, ends):
    """Whether it is a step on a board with so many wheels and cups together."""
    return has_parts(thing, 0, MOST_ENDS) and all([is_within(end, 0, ends - 1) for end in thing])


def is_wheel(thing, ends):
    """Whether it is a wheel on a board with so many wheels and cups together."""
    return has_parts(thing, 1, MOST_STEPS) and all([is_step(step, ends) for step in thing])


def is_board(thing):
    """Whether it is a board, of anything."""
    if not has_parts(thing, 2, 2):
        return False
    wheels, cups = thing
    if not has_parts(wheels, 1, MOST_WHEELS) or not is_within(cups, 0, MOST_CUPS):
        return False
    ends = len(wheels) + cups
    return all([is_wheel(wheel, ends) for wheel in wheels])


def need_board(thing):
    """Refuse what is no board."""
    if not is_board(thing):
        raise NoBoard()


def is_stand(board, thing):
    """Whether it is a stand of the board, of anything."""
    need_board(board)
    wheels = board[0]
    if not has_parts(thing, len(wheels), len(wheels)):
        return False
    return all([is_within(step, 0, len(wheel) - 1) for step, wheel in zip(thing, wheels)])


def need_stand(board, thing):
    """Refuse what is no stand of the board."""
    if not is_stand(board, thing):
        raise NoStand()


def are_marbles(thing, places):
    """Whether it is a tuple with, for each of so many places, how many marbles are there."""
    return has_parts(thing, places, places) and all([is_whole(many) and many >= 0 for many in thing])


def is_moment(board, thing):
    """Whether it is a moment of the board, of anything."""
    need_board(board)
    if not has_parts(thing, 3, 3):
        return False
    wheels, cups = board
    stand, waiting, held = thing
    return is_stand(board, stand) and are_marbles(waiting, len(wheels)) and are_marbles(held, cups)


def need_moment(board, thing):
    """Refuse what is no moment of the board."""
    if not is_moment(board, thing):
        raise NoMoment()


def is_wheel_number(board, thing):
    """Whether it is the number of a wheel of what is a board."""
    return is_within(thing, 0, len(board[0]) - 1)


def need_wheel(board, thing):
    """Refuse what is no number of a wheel of what is a board."""
    if not is_wheel_number(board, thing):
        raise NoWheel()
