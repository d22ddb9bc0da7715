"""[4] what is refused, by which class, and which refusal is due first; [2] what is no whole number."""

import itertools
import unittest

from marblefall.boards import is_moment, is_stand
from marblefall.drains import drain_of, is_drain, never_moment
from marblefall.errors import (
    MarbleError, NoAgain, NoBoard, NoDrain, NoDrops, NoFault, NoHands, NoLinks, NoMoment, NoMouths, NoNumber, NoRow,
    NoSeen, NoStand, NotAlike, NotNow, NoWheel, NoWord, TooMany,
)
from marblefall.faults import all_faults, fitting, is_fault, parting, with_fault
from marblefall.hands import beats, rows_of
from marblefall.joins import joined
from marblefall.moments import behind, counts_of, first_wrong, handled, is_let, rests
from marblefall.rest import end_of, is_end, is_enough
from marblefall.shares import owed, shares
from marblefall.stands import (
    all_again, back, dropped, how_many, is_again, least_drops, led_far, round_of, shows_drops,
)
from marblefall.tellers import parted, shows_parted, told
from marblefall.texts import board_text
from marblefall.works import Works
from tests.things import DRAINING, KEEPING, MIXED, STANDS_648, TURNS, WALK, WRONG, moment

NOW = ((3, 1, 0), (2, 1, 0), (5, 5))

BAD_BOARDS = WRONG + (0, (), list(MIXED), (list(MIXED[0]), 2), MIXED[0], (MIXED[0], True), (MIXED[0], 5))
BAD_MOMENTS = WRONG + (
    0, (), MIXED, list(NOW), (NOW[0], list(NOW[1]), NOW[2]), ((4, 0, 0), (2, 1, 0), (5, 5)),
    ((3, 1, 0), (2, True, 0), (5, 5)), ((3, 1, 0), (2, 1, -1), (5, 5)), ((3, 1, 0), (2, 1, 0), (5, False)),
)
BAD_WHEELS = WRONG + (3, 4, (), (0,), [1], "1", {1: 1})
BAD_ROWS = WRONG + (
    0, (0, 3), (3, 0), (0, -1), (0, True), (False,), (0, None), (0, "1"), (0, (1,)), (0, [1]), [], [0, 0],
    {0: 1}, "01", ((0, 1),),
)
NOT_LET = ((2,), (1, 1), (1, 2), (0, 2, 0), (0, 0, 2, 2))
BAD_STANDS = WRONG + (
    0, (), WALK, [0, 0, 0], (0, 0), (0, 0, 0, 0), (2, 0, 0), (0, 2, 0), (0, 0, 2), (0, -1, 0), (True, 0, 0),
    (0, 0, False), (0, None, 0), (0, "0", 0), (0, (0,), 0), ((0, 0, 0),), "000",
)
BAD_DROPS = WRONG + (
    0, (), [0, 0, 0], (0, 0), (0, 0, 0, 0), (21, 0, 0), (0, 0, 21), (0, -1, 0), (True, 0, 0), (0, 0, False),
    (0, None, 0), (0, "0", 0), (0, (0,), 0), ((0, 0, 0),), "000",
)
BAD_NUMBERS = tuple(thing for thing in WRONG if thing != 6) + (10 ** 12 + 1, (), (0,), [5], "5", {5: 5})
NOT_AGAIN = ((0, 0, 1), (0, 1, 0), (0, 1, 1), (1, 0, 1))
# As many wheels and steps as WALK has, but it keeps.
KEEPS = ((((1,), (1,)), ((0,), (2,)), ((1,), (1,))), 2)

NO_BOARD = ("board", NoBoard, BAD_BOARDS)
NO_MOMENT = ("moment", NoMoment, BAD_MOMENTS)
NO_DRAIN = ("board", NoDrain, (KEEPS,))
NO_STAND = ("stand", NoStand, BAD_STANDS)
NO_WHEEL = ("wheel", NoWheel, BAD_WHEELS)

BAD_ROW_NUMBERS = tuple(thing for thing in WRONG if thing != 6) + (501, (), (0,), [5], "5", {5: 5})
BAD_HANDS = tuple(thing for thing in WRONG if thing != 6) + (0, 7, (), (1,), [1], "1", {1: 1})
BAD_LINKS = WRONG + (
    (), [0, None, 2], (0, None), (0, None, 2, 0), (4, None, 0), (-1, None, 0), (True, None, 0), (None, None, False),
    ((0,), None, 0), ("0", None, 0),
)
# Seven wheels; six, but five cups.
MANY_WHEELS = ((((),),) * 4, 1)
MANY_CUPS = ((((),),) * 3, 4)

TELLER = (WALK, (0, 1, 0), (0, 2))
BAD_MOUTHS = ((), (0,) * 4, (3,), (0, -1), (True,), (0, False), [0], (0, None), ([0],), ("0",), 0, None, "0", {0: 0})
BAD_TELLERS = [
    (NoBoard, WRONG + (TELLER[:2], TELLER + (0,), list(TELLER), WALK, (list(WALK), *TELLER[1:]), (0, *TELLER[1:]))),
    (NoDrain, ((KEEPS, *TELLER[1:]),)),
    (NoStand, tuple((WALK, stand, (0, 2)) for stand in ((2, 0, 0), (0, 0), [0, 0, 0], (True, 0, 0), None, 0, "000"))),
    (NoMouths, tuple((WALK, (0, 1, 0), mouths) for mouths in BAD_MOUTHS)),
]
# As many mouths and cups, but 64 stands.
MANY_TELLER = (((((), (), (), (3,)),) * 3, 2), (0, 1, 0), (0, 1))
NOT_ALIKE = ((WALK, (0, 1, 0), (0,)), (WALK, (0, 1, 0), (0, 1, 2)), (TURNS, (0, 1, 0), (0, 2)))
BAD_WORDS = tuple(thing for thing in WRONG if thing != ()) + ((2,), (0, -1), (0, True), [0], (0, None), ((0,),), 0, "0")
BAD_SEEN = WRONG + (
    (), ((0, 0),), ((0, 0),) * 3, [(0, 0), (0, 0)], ((0, 0), [0, 0]), ((0, 0), (0,)), ((0, 0), (0, -1)),
    ((0, 0), (0, True)), ((0, 0), None),
)
BAD_FAULTS = tuple(thing for thing in WRONG if thing is not None) + (
    (), ("lame",), ("lame", 0), ("lame", 0, 2), ("lame", 3, 0), ("lame", True, 0), ("blocked", 5), ("blocked", 0, 0),
    ("off", 0, 0), ("off", 1, 1), ("off", 0, True), ["off", 0, 1], "off",
)


def of_teller(name):
    """What is due of the teller that is handed in by the name."""
    return [(name, kind, wrongs) for kind, wrongs in BAD_TELLERS]


# Of each function its refusals in the interface's order: the argument, the class, what brings it about;
# last, an argument for each that is right.
REFUSALS = {
    is_stand: ([("board", NoBoard, BAD_BOARDS)], {"board": MIXED, "thing": (0, 0, 0)}),
    is_moment: ([("board", NoBoard, BAD_BOARDS)], {"board": MIXED, "thing": NOW}),
    handled: (
        [("board", NoBoard, BAD_BOARDS), ("moment", NoMoment, BAD_MOMENTS), ("wheel", NoWheel, BAD_WHEELS),
         ("wheel", NotNow, (2,))],
        {"board": MIXED, "moment": NOW, "wheel": 0},
    ),
    rests: (
        [("board", NoBoard, BAD_BOARDS), ("moment", NoMoment, BAD_MOMENTS)],
        {"board": MIXED, "moment": NOW},
    ),
    is_let: (
        [("board", NoBoard, BAD_BOARDS), ("moment", NoMoment, BAD_MOMENTS), ("row", NoRow, BAD_ROWS)],
        {"board": MIXED, "moment": NOW, "row": (0, 1)},
    ),
    first_wrong: (
        [("board", NoBoard, BAD_BOARDS), ("moment", NoMoment, BAD_MOMENTS), ("row", NoRow, BAD_ROWS)],
        {"board": MIXED, "moment": NOW, "row": (0, 1)},
    ),
    behind: (
        [("board", NoBoard, BAD_BOARDS), ("moment", NoMoment, BAD_MOMENTS), ("row", NoRow, BAD_ROWS + NOT_LET)],
        {"board": MIXED, "moment": NOW, "row": (0, 1)},
    ),
    counts_of: (
        [("board", NoBoard, BAD_BOARDS), ("row", NoRow, BAD_ROWS)],
        {"board": MIXED, "row": (0, 1)},
    ),
    end_of: ([NO_BOARD, NO_MOMENT], {"board": MIXED, "moment": NOW}),
    is_end: ([NO_BOARD, NO_MOMENT], {"board": MIXED, "moment": NOW, "thing": None}),
    is_enough: ([NO_BOARD, NO_MOMENT], {"board": MIXED, "moment": NOW, "thing": None}),
    drain_of: ([NO_BOARD], {"board": MIXED}),
    is_drain: ([NO_BOARD], {"board": MIXED, "thing": None}),
    never_moment: ([NO_BOARD, ("board", NotNow, DRAINING)], {"board": MIXED}),
    dropped: (
        [NO_BOARD, NO_DRAIN, NO_STAND, ("drops", NoDrops, BAD_DROPS)],
        {"board": WALK, "stand": (0, 1, 0), "drops": (20, 0, 1)},
    ),
    is_again: ([NO_BOARD, NO_DRAIN, NO_STAND], {"board": WALK, "stand": (0, 1, 0)}),
    all_again: ([NO_BOARD, ("board", NoDrain, KEEPING), ("board", TooMany, (STANDS_648,))], {"board": WALK}),
    how_many: ([NO_BOARD, ("board", NoDrain, KEEPING)], {"board": WALK}),
    back: (
        [NO_BOARD, NO_DRAIN, NO_STAND, NO_WHEEL, ("stand", NoAgain, NOT_AGAIN)],
        {"board": WALK, "stand": (1, 1, 1), "wheel": 0},
    ),
    round_of: ([NO_BOARD, NO_DRAIN, NO_STAND, NO_WHEEL], {"board": WALK, "stand": (0, 1, 0), "wheel": 0}),
    led_far: (
        [NO_BOARD, NO_DRAIN, NO_STAND, NO_WHEEL, ("many", NoNumber, BAD_NUMBERS)],
        {"board": WALK, "stand": (0, 1, 0), "wheel": 0, "many": 10 ** 12},
    ),
    least_drops: (
        [NO_BOARD, NO_DRAIN, NO_STAND, ("other", NoStand, BAD_STANDS)],
        {"board": WALK, "stand": (0, 1, 0), "other": (0, 0, 0)},
    ),
    shows_drops: (
        [NO_BOARD, NO_DRAIN, NO_STAND, ("other", NoStand, BAD_STANDS)],
        {"board": WALK, "stand": (0, 1, 0), "other": (0, 0, 0), "thing": None},
    ),
    shares: ([NO_BOARD, ("board", NoDrain, KEEPING)], {"board": WALK}),
    owed: ([NO_BOARD, NO_DRAIN, NO_STAND], {"board": WALK, "stand": (0, 1, 0)}),
    joined: (
        [("one", NoBoard, BAD_BOARDS), ("other", NoBoard, BAD_BOARDS), ("links", NoLinks, BAD_LINKS),
         ("other", TooMany, (MANY_WHEELS, MANY_CUPS))],
        {"one": TURNS, "other": WALK, "links": (0, None, 2)},
    ),
    told: (of_teller("teller") + [("word", NoWord, BAD_WORDS)], {"teller": TELLER, "word": (0, 1)}),
    parted: (
        of_teller("one") + of_teller("other") + [("other", NotAlike, NOT_ALIKE), ("one", TooMany, (MANY_TELLER,))],
        {"one": TELLER, "other": TELLER},
    ),
    shows_parted: (
        of_teller("one") + of_teller("other") + [("one", NotAlike, NOT_ALIKE), ("other", TooMany, (MANY_TELLER,))],
        {"one": TELLER, "other": TELLER, "thing": None},
    ),
    is_fault: (of_teller("teller"), {"teller": TELLER, "thing": None}),
    with_fault: (of_teller("teller") + [("fault", NoFault, BAD_FAULTS)], {"teller": TELLER, "fault": ("off", 0, 1)}),
    all_faults: (of_teller("teller"), {"teller": TELLER}),
    fitting: (
        of_teller("teller") + [("word", NoWord, BAD_WORDS), ("seen", NoSeen, BAD_SEEN)],
        {"teller": TELLER, "word": (0, 1), "seen": ((0, 0), (0, 0))},
    ),
    parting: (
        of_teller("teller") + [("one", NoFault, BAD_FAULTS), ("other", NoFault, BAD_FAULTS)],
        {"teller": TELLER, "one": ("off", 0, 1), "other": None},
    ),
    beats: ([NO_BOARD, NO_MOMENT, ("hands", NoHands, BAD_HANDS)], {"board": MIXED, "moment": NOW, "hands": 2}),
    rows_of: (
        [NO_BOARD, NO_MOMENT, ("many", NoNumber, BAD_ROW_NUMBERS), ("hands", NoHands, BAD_HANDS)],
        {"board": MIXED, "moment": NOW, "many": 9, "hands": 2},
    ),
    Works: ([NO_BOARD, NO_STAND], {"board": WALK, "stand": (0, 1, 0)}),
    board_text: ([NO_BOARD], {"board": MIXED}),
}

# The same for a board of more than 600 stands.
MANY_BAD_STANDS = WRONG + ((0, 0, 0), (3, 0, 0, 0, 0, 0), (0,) * 5 + (2,), (0, 0, 0, True, 0, 0), [0] * 6)
MANY_KEEPS = ((STANDS_648[0][:4] + (((4,),) * 4, STANDS_648[0][5])), 2)
MANY = [NO_BOARD, ("board", NoDrain, (MANY_KEEPS,)), ("stand", NoStand, MANY_BAD_STANDS)]
TOO_MANY = {
    is_again: (MANY, {"board": STANDS_648, "stand": (0,) * 6}),
    all_again: (MANY[:2], {"board": STANDS_648}),
    back: (MANY + [("wheel", NoWheel, WRONG + (7, (), (0,)))], {"board": STANDS_648, "stand": (0,) * 6, "wheel": 5}),
    least_drops: (
        MANY + [("other", NoStand, MANY_BAD_STANDS)], {"board": STANDS_648, "stand": (0,) * 6, "other": (1,) * 6},
    ),
    shows_drops: (
        MANY + [("other", NoStand, MANY_BAD_STANDS)],
        {"board": STANDS_648, "stand": (0,) * 6, "other": (1,) * 6, "thing": ("drops", (0,) * 6)},
    ),
}


def refusal(ask, arguments):
    """The class of the error by which it is refused, None if it isn't."""
    try:
        ask(**arguments)
    except MarbleError as error:
        return type(error)
    return None


class RefusalTest(unittest.TestCase):
    def test_what_is_right_is_not_refused(self):
        for ask, (refusals, right) in REFUSALS.items():
            self.assertIsNone(refusal(ask, right), ask)

    def test_each_refusal(self):
        for ask, (refusals, right) in REFUSALS.items():
            for name, kind, wrongs in refusals:
                for wrong in wrongs:
                    with self.subTest(ask=ask.__name__, name=name, wrong=repr(wrong)[:80]):
                        self.assertIs(refusal(ask, {**right, name: wrong}), kind)

    def test_of_several_the_first(self):
        for ask, (refusals, right) in REFUSALS.items():
            for first, second in itertools.combinations(refusals, 2):
                if first[0] == second[0]:
                    continue
                for wrong, other in itertools.product(first[2], second[2]):
                    arguments = {**right, first[0]: wrong, second[0]: other}
                    self.assertIs(refusal(ask, arguments), first[1], (ask, wrong, other))

    def test_all_at_once(self):
        for ask, (refusals, right) in REFUSALS.items():
            for wrong in WRONG:
                self.assertIs(refusal(ask, {name: wrong for name in right}), NoBoard)

    def test_too_many_stands(self):
        for ask, (refusals, right) in TOO_MANY.items():
            with self.assertRaises(TooMany) as caught:
                ask(**right)
            self.assertEqual((caught.exception.many, caught.exception.most), (648, 600))
            for name, kind, wrongs in refusals:
                for wrong in wrongs:
                    self.assertIs(refusal(ask, {**right, name: wrong}), kind, (ask, name, wrong))

    def test_too_many_ahead_of_no_again(self):
        # 729 stands, of which not all come again.
        board = (tuple(((wheel - 1,) if wheel else (6,), (wheel + 1,), ()) for wheel in range(6)), 2)
        for stand in itertools.product(range(3), repeat=6):
            self.assertIs(refusal(back, {"board": board, "stand": stand, "wheel": 0}), TooMany)

    def test_of_several_parts_of_a_teller_the_first(self):
        parts = (
            ((NoBoard, (None, 0, [], MIXED[0], list(WALK), True)), (NoDrain, (KEEPS,)), (None, (WALK,))),
            ((NoStand, ((2, 0, 0), (0, 0), [0, 0, 0], (True, 0, 0), None, 0)), (None, ((0, 1, 0),))),
            ((NoMouths, BAD_MOUTHS), (None, ((0, 2),))),
        )
        for due in itertools.product(*parts):
            kinds = [kind for kind, things in due if kind is not None]
            for teller in itertools.product(*(things for kind, things in due)):
                self.assertIs(refusal(told, {"teller": teller, "word": ()}), kinds[0] if kinds else None, teller)
                self.assertIs(refusal(all_faults, {"teller": teller}), kinds[0] if kinds else None, teller)
                if kinds:
                    self.assertIs(refusal(told, {"teller": teller, "word": None}), kinds[0], teller)
                    self.assertIs(refusal(parted, {"one": teller, "other": None}), kinds[0], teller)
                    self.assertIs(refusal(parted, {"one": TELLER, "other": teller}), kinds[0], teller)
                    self.assertIs(refusal(with_fault, {"teller": teller, "fault": 0}), kinds[0], teller)

    def test_too_many_behind_all_else(self):
        for one, other, kind in (
            (MANY_TELLER, MANY_TELLER, TooMany), (MANY_TELLER, NOT_ALIKE[0], NotAlike),
            (NOT_ALIKE[0], MANY_TELLER, NotAlike), (MANY_TELLER, None, NoBoard), (None, MANY_TELLER, NoBoard),
            (MANY_TELLER, (KEEPS, 0, 0), NoDrain),
        ):
            self.assertIs(refusal(parted, {"one": one, "other": other}), kind)
            self.assertIs(refusal(shows_parted, {"one": one, "other": other, "thing": None}), kind)
        for wrong in BAD_FAULTS:
            self.assertIs(refusal(parting, {"teller": MANY_TELLER, "one": wrong, "other": None}), NoFault)
            self.assertIs(refusal(parting, {"teller": MANY_TELLER, "one": None, "other": wrong}), NoFault)
        self.assertIs(refusal(parting, {"teller": MANY_TELLER, "one": None, "other": None}), TooMany)

    def test_a_moment_of_another_board(self):
        one_wheel = ((((0,),),), 0)
        self.assertRaises(NoMoment, handled, one_wheel, NOW, 0)
        self.assertRaises(NoMoment, rests, MIXED, ((0,), (0,), ()))
        self.assertRaises(NoMoment, behind, one_wheel, NOW, ())

    def test_the_last_wheel_and_the_one_beyond(self):
        for many in range(1, 7):
            board = ((((),),) * many, 0)
            start = moment(board, (1,) * many)
            last = many - 1
            self.assertEqual(handled(board, start, last)[1], (1,) * last + (0,))
            self.assertEqual(behind(board, start, (last,))[1], (1,) * last + (0,))
            self.assertEqual(counts_of(board, (last,)), (0,) * last + (1,))
            for wrong in (many, many + 1, -1, -many):
                self.assertRaises(NoWheel, handled, board, start, wrong)
                for ask in (is_let, first_wrong, behind):
                    self.assertRaises(NoRow, ask, board, start, (wrong,))
                self.assertRaises(NoRow, counts_of, board, (wrong,))

    def test_a_cup_is_no_wheel(self):
        self.assertRaises(NoWheel, handled, MIXED, NOW, 3)
        self.assertRaises(NoRow, counts_of, MIXED, (3,))

    def test_a_wrong_number_behind_a_place_where_none_waits(self):
        for ask in (is_let, first_wrong, behind):
            self.assertRaises(NoRow, ask, MIXED, NOW, (2, True))
            self.assertRaises(NoRow, ask, MIXED, NOW, (2, 7))


if __name__ == "__main__":
    unittest.main()
