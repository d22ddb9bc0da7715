"""Boards that drain and boards that keep, and what shows it."""

from marblefall.boards import are_marbles, has_parts, need_board
from marblefall.errors import NoDrain, NotNow
from marblefall.tables import lowered, solved, solved_board, turn_ends, turn_table


def need_drain(board):
    """Refuse what is no board, then what doesn't drain."""
    need_board(board)
    if solved_board(board) is None:
        raise NoDrain()


def weigh_less(board, weights):
    """Whether of each wheel the ends of a whole turn weigh less than the wheel so often as it has steps."""
    wheels = board[0]
    ends = turn_ends(board)
    return all([
        sum([times * weight for times, weight in zip(ends[wheel], weights)]) < weights[wheel] * len(steps)
        for wheel, steps in enumerate(wheels)
    ])


def turns_handled(board, turns):
    """For each wheel how many marbles are handled at it when it is turned wholly so often."""
    return [many * len(steps) for many, steps in zip(turns, board[0])]


def bring_no_fewer(board, turns):
    """Whether by these whole turns to each wheel no fewer marbles come than are handled at it."""
    ends = turn_ends(board)
    return all([
        sum([many * line[wheel] for many, line in zip(turns, ends)]) >= gone
        for wheel, gone in enumerate(turns_handled(board, turns))
    ])


def groups_of(many):
    """All groups of one or more of so many wheels, small ones first."""
    groups = [()]
    for wheel in range(many):
        groups = groups + [group + (wheel,) for group in groups]
    return sorted(groups[1:], key=len)


def group_turns(board, group, wheel):
    """Whole turns of a group by which to each of its wheels but this one just as many come as are handled at it."""
    ends = turn_ends(board)[wheel]
    others = [other for other in group if other != wheel]
    number, lines = solved(turn_table(board, others))
    turns = [0] * len(board[0])
    turns[wheel] = number
    for at, other in enumerate(others):
        turns[other] = sum([ends[one] * line[at] for one, line in zip(others, lines)])
    return lowered(turns)


def least_keeps(board):
    """For each group that keeps marbles by itself, and none within it does, turns that show it."""
    kept = []
    found = []
    for group in groups_of(len(board[0])):
        if any([all([wheel in group for wheel in less]) for less in kept]):
            continue
        # Where no smaller group keeps, the turns of any one of the wheels tell whether this one does.
        if bring_no_fewer(board, group_turns(board, group, group[0])):
            kept.append(group)
            tries = [group_turns(board, group, wheel) for wheel in group]
            found.append(min(tries, key=lambda turns: sum(turns_handled(board, turns))))
    return found


def drain_of(board):
    """("drains", weights) or ("keeps", turns), whichever is so."""
    need_board(board)
    found = solved_board(board)
    if found is None:
        return "keeps", least_keeps(board)[0]
    return "drains", lowered([sum(line) for line in found[1]])


def is_drain(board, thing):
    """Whether it shows that the board drains or that it keeps, of anything."""
    need_board(board)
    if not has_parts(thing, 2, 2) or not are_marbles(thing[1], len(board[0])):
        return False
    word, numbers = thing
    if word == "drains":
        return min(numbers) > 0 and weigh_less(board, numbers)
    if word == "keeps":
        return max(numbers) > 0 and bring_no_fewer(board, numbers)
    return False


def never_moment(board):
    """A moment of the stand of noughts, nothing held, that never rests; of a board that keeps."""
    word, turns = drain_of(board)
    if word == "drains":
        raise NotNow()
    wheels, cups = board
    # So many wait that the turns can be gone at once, and no fewer wait behind them.
    return (0,) * len(wheels), tuple(turns_handled(board, turns)), (0,) * cups
