"""Tables of how often wheels and cups are ends of whole turns, and how such tables are solved in whole numbers."""


def turn_ends(board):
    """For each wheel how often each wheel, and behind them each cup, is an end of a whole turn of it."""
    wheels, cups = board
    found = []
    for steps in wheels:
        line = [0] * (len(wheels) + cups)
        for step in steps:
            for end in step:
                line[end] += 1
        found.append(line)
    return found


def turn_table(board, group):
    """The table that has a line and a column for each wheel of the group: its steps, less the ends of a whole turn."""
    wheels = board[0]
    ends = turn_ends(board)
    return [
        [(len(wheels[wheel]) if wheel == end else 0) - ends[wheel][end] for end in group]
        for wheel in group
    ]


def with_nought(line, other, place, number):
    """The line with a nought at the place, by the other line; the number of the step ahead divides all of it."""
    return [(other[place] * one - line[place] * less) // number for one, less in zip(line, other)]


def solved(table):
    """(number, lines): the table's one number and its inverse so many times; None where wheels of it keep marbles."""
    size = len(table)
    lines = [line + [1 if at == place else 0 for at in range(size)] for place, line in enumerate(table)]
    number = 1
    for place in range(size):
        own = lines[place]
        # No number beside the diagonal is above 0: so all marbles of these wheels drain just where each of these
        # numbers, the one numbers of the tables of the first 1, 2, 3 .. wheels, is above 0.
        if own[place] <= 0:
            return None
        lines = [own if at == place else with_nought(line, own, place, number) for at, line in enumerate(lines)]
        number = own[place]
    return number, [line[size:] for line in lines]


def solved_board(board):
    """What is solved of the table of all wheels; None where the board keeps marbles."""
    return solved(turn_table(board, list(range(len(board[0])))))


def greatest_common(one, other):
    """The greatest number that divides both without a rest; 0 of two noughts."""
    while other != 0:
        one, other = other, one % other
    return abs(one)


def lowered(numbers):
    """The tuple of the numbers, not all 0, without what divides them all."""
    common = 0
    for number in numbers:
        common = greatest_common(common, number)
    return tuple([number // common for number in numbers])
