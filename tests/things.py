"""Boards, moments and wrong things that several tests use."""

# One wheel of one step without an end: the least board.
LEAST = ((((),),), 0)

# Each bound at its last: six wheels of four steps of three ends, four cups.
MOST = (((((0, 5, 9), (6, 7, 8), (1, 1, 1), (9, 9, 9)),) * 6), 4)

# Three wheels and two cups; wheel 0 has all kinds of steps.
MIXED = (
    (
        ((1, 2, 3), (), (0,), (0, 0, 4)),
        ((3, 3), (4, 0)),
        ((1, 1),),
    ),
    2,
)

# By turns to the left and to the right, then into the cups.
TURNS = ((((1,), (2,)), ((3,), (4,)), ((4,), (5,), (3,))), 3)

# Two wheels that send each other marbles for ever, one in two of them into the cup as well.
EVER = ((((1,), (1, 2)), ((0,),)), 1)

# One wheel that is its own end; no cup.
ROUND = ((((0,),),), 0)

BOARDS = (LEAST, MOST, MIXED, TURNS, EVER, ROUND)

# Things that are no board, no stand, no moment, no number of a wheel and no row, whichever the board.
WRONG = (
    None,
    True,
    False,
    -1,
    6,
    9999999999999,
    -9999999999999,
    "",
    "0",
    "cups 0\nwheel -\n",
    [],
    [0],
    [0, 0, 0],
    {},
    {0: 0},
    {"wheels": [[[]]], "cups": 0},
    (None,),
    (True,),
    (False, False, False),
    (-1,),
    (6,),
    ("0",),
    ([0],),
    ({},),
    ((), (), (), ()),
    ((0,), [0], None),
    ((((((((0,),),),),),),),),
    [[[[[[[[0]]]]]]]],
    {"a": {"b": [(1, 2), {"c": None}]}},
    [0] * 2999,
)


def moment(board, waiting, stand=None, held=None):
    """The moment of the board with these waiting; at the stand of noughts, nothing held, if not told."""
    wheels, cups = board
    return (stand or (0,) * len(wheels), waiting, held or (0,) * cups)


def all_waiting(board, many):
    """The moment with so many marbles waiting at each wheel."""
    return moment(board, (many,) * len(board[0]))


def tuple_paths(thing):
    """The paths to all tuples in the thing, that to itself, (), among them."""
    if not isinstance(thing, tuple):
        return []
    return [()] + [(at, *path) for at, part in enumerate(thing) for path in tuple_paths(part)]


def number_paths(thing):
    """The paths to all numbers in the thing."""
    if not isinstance(thing, tuple):
        return [()]
    return [(at, *path) for at, part in enumerate(thing) for path in number_paths(part)]


def part_at(thing, path):
    for at in path:
        thing = thing[at]
    return thing


def with_part(thing, path, part):
    """The thing with another part at the path."""
    if not path:
        return part
    at, *rest = path
    return thing[:at] + (with_part(thing[at], rest, part),) + thing[at + 1:]
