"""What each cup gets of a marble in the long run, by fractions, and what a stand owes."""

from marblefall.boards import need_stand
from marblefall.drains import need_drain
from marblefall.tables import lowered, solved_board, turn_ends


def share_tops(board):
    """(bottom, tops): for each wheel, and behind them for each cup, the tops of its shares, cup by cup."""
    wheels, cups = board
    ends = turn_ends(board)
    bottom, lines = solved_board(board)
    tops = [
        [sum([line[one] * ends[one][len(wheels) + cup] for one in range(len(wheels))]) for cup in range(cups)]
        for line in lines
    ]
    of_cups = [[bottom if cup == own else 0 for cup in range(cups)] for own in range(cups)]
    return bottom, tops + of_cups


def shares(board):
    """For each wheel the tuple of its shares, cup by cup."""
    need_drain(board)
    bottom, tops = share_tops(board)
    return tuple([tuple([lowered((top, bottom)) for top in line]) for line in tops[:len(board[0])]])


def owed_top(board, tops, stand, cup):
    """What the stand owes the cup, as a top."""
    owing = 0
    for wheel, steps in enumerate(board[0]):
        for step in steps[:stand[wheel]]:
            owing += tops[wheel][cup] - sum([tops[end][cup] for end in step])
    return owing


def owed(board, stand):
    """What the stand owes, cup by cup."""
    need_drain(board)
    need_stand(board, stand)
    bottom, tops = share_tops(board)
    return tuple([lowered((owed_top(board, tops, stand, cup), bottom)) for cup in range(board[1])])
