"""Boards, moments, wrong things and ways to reckon that several tests use."""

import functools
import itertools
import random
import unittest

from marblefall.drains import drain_of
from marblefall.moments import handled

# One wheel of one step without an end: the least board.
LEAST = ((((),),), 0)

# Each bound at its last: six wheels of four steps of three ends, four cups.
MOST = (((((0, 5, 9), (6, 7, 8), (1, 1, 1), (9, 9, 9)),) * 6), 4)

# Three wheels and two cups; wheel 0 has all kinds of steps.
MIXED = (
    (
        ((1, 2, 3), (), (0,), (0, 0, 4)),
        ((3, 3), (4, 0)),
        ((1, 1),),
    ),
    2,
)

# By turns to the left and to the right, then into the cups.
TURNS = ((((1,), (2,)), ((3,), (4,)), ((4,), (5,), (3,))), 3)

# Two wheels that send each other marbles for ever, one in two of them into the cup as well.
EVER = ((((1,), (1, 2)), ((0,),)), 1)

# One wheel that is its own end; no cup.
ROUND = ((((0,),),), 0)

BOARDS = (LEAST, MOST, MIXED, TURNS, EVER, ROUND)

# Two wheels in a ring; one wheel that doubles; one that trebles by turns with going nowhere.
RING = ((((1,),), ((0,),)), 0)
DOUBLER = ((((0, 0),),), 0)
TREBLER = ((((), (0, 0, 0), (1,)),), 1)

# Each wheel lets one in two marbles on, the last one into the cup.
HALVES = ((((), (1,)), ((), (2,)), ((), (3,))), 1)

# To the left and to the right by turns, on a line with a cup at each end: 4 of the 8 stands come again.
WALK = ((((3,), (1,)), ((0,), (2,)), ((1,), (4,))), 2)

# Up and down a line of six, three in four back down; no cups: marbles are handled often until they are gone.
CLIMB = (
    (
        ((0,), (0,), (0,), (1,)),
        ((0,), (0,), (0,), (2,)),
        ((1,), (1,), (2,), (3,)),
        ((2,), (2,), (2,), (4,)),
        ((3,), (3,), (5,), (5,)),
        ((4,), (), (4,), ()),
    ),
    0,
)

# The most stands up to 600, and the fewest above.
STANDS_576 = (
    (((1,), (2,), (), (5,)), ((2, 3), (), (0,), (6,)), ((), (3,), (4,), ()), ((4,), (), (0,)), ((), (0,), (7,))),
    3,
)
STANDS_648 = (
    (
        ((1,), (), (2,)), ((2,), (3, 6), ()), ((0,), (4,), ()), ((4,), (), (5,)), ((5,), (), (0,), (7,)), ((), (1,)),
    ),
    2,
)

DRAINING = (LEAST, TURNS, HALVES, WALK, CLIMB, STANDS_576, STANDS_648)
KEEPING = (MOST, MIXED, EVER, ROUND, RING, DOUBLER, TREBLER)

# Things that are no board, no stand, no moment, no number of a wheel and no row, whichever the board.
WRONG = (
    None,
    True,
    False,
    -1,
    6,
    9999999999999,
    -9999999999999,
    "",
    "0",
    "cups 0\nwheel -\n",
    [],
    [0],
    [0, 0, 0],
    {},
    {0: 0},
    {"wheels": [[[]]], "cups": 0},
    (None,),
    (True,),
    (False, False, False),
    (-1,),
    (6,),
    ("0",),
    ([0],),
    ({},),
    ((), (), (), ()),
    ((0,), [0], None),
    ((((((((0,),),),),),),),),
    [[[[[[[[0]]]]]]]],
    {"a": {"b": [(1, 2), {"c": None}]}},
    [0] * 2999,
)


def moment(board, waiting, stand=None, held=None):
    """The moment of the board with these waiting; at the stand of noughts, nothing held, if not told."""
    wheels, cups = board
    return (stand or (0,) * len(wheels), waiting, held or (0,) * cups)


def all_waiting(board, many):
    """The moment with so many marbles waiting at each wheel."""
    return moment(board, (many,) * len(board[0]))


# Moments that never rest: of a wheel that is its own end at every step, of two in a ring, of doublers and others.
NEVERS = (
    (ROUND, moment(ROUND, (1,))),
    (ROUND, moment(ROUND, (1000,))),
    (((((0,), (0,), (0,), (0,)),), 0), ((2,), (1,), ())),
    (RING, moment(RING, (1, 0))),
    (RING, moment(RING, (0, 7))),
    (DOUBLER, moment(DOUBLER, (1,))),
    (DOUBLER, moment(DOUBLER, (1000,))),
    (((((1, 1),), ((0, 0, 2),)), 1), ((0, 0), (0, 1), (5,))),
    (EVER, moment(EVER, (1, 0))),
    (EVER, ((1, 0), (0, 3), (2,))),
    (TREBLER, ((1,), (1,), (0,))),
    (TREBLER, ((0,), (2,), (0,))),
    (MIXED, moment(MIXED, (9, 9, 9))),
    (MOST, moment(MOST, (1, 1, 1, 1, 1, 1))),
    # The marble must go down a chain of wheels first, of which each lets one in two on.
    (((((), (1,)), ((), (2,)), ((), (3,)), ((3,),)), 0), moment(((0,) * 4, 0), (8, 0, 0, 0))),
)


def tuple_paths(thing):
    """The paths to all tuples in the thing, that to itself, (), among them."""
    if not isinstance(thing, tuple):
        return []
    return [()] + [(at, *path) for at, part in enumerate(thing) for path in tuple_paths(part)]


def number_paths(thing):
    """The paths to all numbers in the thing."""
    if not isinstance(thing, tuple):
        return [()]
    return [(at, *path) for at, part in enumerate(thing) for path in number_paths(part)]


def part_at(thing, path):
    for at in path:
        thing = thing[at]
    return thing


def with_part(thing, path, part):
    """The thing with another part at the path."""
    if not path:
        return part
    at, *rest = path
    return thing[:at] + (with_part(thing[at], rest, part),) + thing[at + 1:]


class Told(unittest.TestCase):
    """The answer is to be True or False itself, not only like it."""

    def yes(self, answer, why=""):
        self.assertIs(answer, True, why)

    def no(self, answer, why=""):
        self.assertIs(answer, False, why)


def some_board(rng, wheels, cups, ends):
    """A board by chance, of so many wheels and cups; ends: from how many ends each step has its number of them."""
    return tuple(
        tuple(
            tuple(rng.randrange(wheels + cups) for end in range(rng.choice(ends)))
            for step in range(rng.randint(1, 4))
        )
        for wheel in range(wheels)
    ), cups


def some_boards(seed, each, kind=None, most_wheels=6, most_stands=4096):
    """Boards by chance, always the same, so many of one wheel, of two and so on; kind: "drains", "keeps" or None."""
    rng = random.Random(seed)
    for wheels in range(1, most_wheels + 1):
        found = 0
        while found < each:
            ends = rng.choice(((0, 1, 1, 2), (1,), (0, 1), (1, 1, 1, 2), (0, 1, 2, 3)))
            board = some_board(rng, wheels, rng.randint(0, 4), ends)
            if kind in (None, drain_of(board)[0]) and len(all_stands(board)) <= most_stands:
                found += 1
                yield board


def some_moment(rng, board, most):
    """A moment of the board by chance with up to so many waiting at each wheel."""
    wheels, cups = board
    stand = tuple(rng.randrange(len(steps)) for steps in wheels)
    waiting = tuple(rng.choice((0, rng.randint(0, most))) for wheel in wheels)
    return stand, waiting, tuple(rng.randint(0, 9) for cup in range(cups))


def all_stands(board):
    """All stands of the board, rising."""
    return list(itertools.product(*(range(len(steps)) for steps in board[0])))


def one_by_one(board, now, pick, most=100000):
    """(counts, moment) at rest, handled marble by marble; pick tells which of the wheels at which some wait."""
    counts = [0] * len(board[0])
    for again in range(most):
        ready = [wheel for wheel, many in enumerate(now[1]) if many > 0]
        if not ready:
            return tuple(counts), now
        wheel = pick(ready)
        counts[wheel] += 1
        now = handled(board, now, wheel)
    raise AssertionError(f"no rest behind {most} marbles")


@functools.lru_cache(maxsize=None)
def one_drop(board, stand, wheel):
    """(stand, cups) behind a drop at the wheel, handled marble by marble."""
    waiting = tuple(int(at == wheel) for at in range(len(stand)))
    last = one_by_one(board, moment(board, waiting, stand), min)[1]
    return last[0], last[2]


def added(some, others):
    """The numbers of both together, place by place."""
    return tuple(one + other for one, other in zip(some, others, strict=True))


def drops_in_row(board, stand, row):
    """(stand, cups) behind drops at the wheels of the row, one behind the other."""
    cups = (0,) * board[1]
    for wheel in row:
        stand, gains = one_drop(board, stand, wheel)
        cups = added(cups, gains)
    return stand, cups


def row_of(drops):
    """The row with so many drops at each wheel, the least wheel first."""
    return tuple(wheel for wheel, many in enumerate(drops) for again in range(many))


@functools.lru_cache(maxsize=None)
def reached(board, stand):
    """All stands that are come to from the stand by drops, itself among them."""
    found = {stand}
    fresh = [stand]
    while fresh:
        now = fresh.pop()
        for wheel in range(len(stand)):
            then = one_drop(board, now, wheel)[0]
            if then not in found:
                found.add(then)
                fresh.append(then)
    return frozenset(found)


def comes_again(board, stand):
    """Whether drops lead back to the stand from each stand that is come to from it."""
    return all(stand in reached(board, other) for other in reached(board, stand))


def some_teller(rng, board):
    """A teller of the board, which drains, by chance."""
    stand = tuple(rng.randrange(len(steps)) for steps in board[0])
    return board, stand, tuple(rng.randrange(len(stand)) for mouth in range(rng.randint(1, 3)))


def told_one_by_one(teller, word):
    """For each drop of the word what each cup gets, handled marble by marble."""
    board, stand, mouths = teller
    found = []
    for place in word:
        stand, cups = one_drop(board, stand, mouths[place])
        found.append(cups)
    return tuple(found)


def all_words(mouths, most):
    """All words of up to so many drops, short ones first, of as short ones the least first."""
    for many in range(most + 1):
        yield from itertools.product(range(mouths), repeat=many)


def turn_sums(board, wheel):
    """For each wheel and each cup how often it is an end of a whole turn of the wheel."""
    wheels, cups = board
    ends = [end for step in wheels[wheel] for end in step]
    return [ends.count(end) for end in range(len(wheels) + cups)]


def one_number(board):
    """The one number of the table of [51], the sum over all orders of its columns."""
    wheels = board[0]
    many = len(wheels)
    table = [
        [(len(wheels[line]) if line == column else 0) - turn_sums(board, line)[column] for column in range(many)]
        for line in range(many)
    ]
    total = 0
    for order in itertools.permutations(range(many)):
        product = 1
        for line, column in enumerate(order):
            product *= table[line][column]
        for one, other in itertools.combinations(order, 2):
            product *= -1 if one > other else 1
        total += product
    return total


# Things of any kind, and such that are like those that are told.
ANYTHING = WRONG + (
    "alike", "apart", ("alike",), ("apart",), ("alike", ()), ("apart", ()), ("alike", 0), ("apart", 0), ("apart", [0]),
    ("alike", [((0,), (0,))]), ("apart", "0"), "lame", ("lame",), ("lame", 0), ("lame", 9, 0), ("blocked",),
    ("blocked", 9), ("blocked", True), ("blocked", None), ("off",), ("off", 0), ("off", 0, 9), ("off", None, None),
    ("lame", True, True), ("off", True, True), ["lame", 0, 0], ["blocked", 0], ("lame", [0], {}), {"off": (0, 1)},
    0, 1, (), ((),), ((), ()), ((), (), ()), "rests", "never", "drains", "keeps", "drops", "closed",
    ("rests",), ("never",), ("drains",), ("keeps",), ("drops",), ("closed",), ("rests", (), ()), ("never", (), ()),
    ("never", (), None), ("never", 0, 0), ("rests", 0, 0), ("drains", 1), ("keeps", 1), ("drops", 0), ("closed", ()),
    ("closed", 0), ("drops", None), ("never", "0", "0"), ("rests", [0], None), ("drains", [1]), ("keeps", [1]),
    (["rests"], (), ()), ({}, [], ()), (("never",), (), ()), (None, None), (None, None, None), (True, True, True),
    {"drains": (1,)}, ("Drains", (1,)), ("drain", (1,)), ("keep", (1,)), ("drop", (0,)), ("close", ()), ("rest", (0,)),
)
