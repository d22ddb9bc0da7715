"""[3] nothing handed in is changed, the same answer again, arguments by place or by name."""

import copy
import inspect
import itertools
import unittest

from marblefall import boards, drains, faults, joins, moments, rest, shares, stands, tellers, texts
from marblefall.errors import MarbleError
from tests.things import ANYTHING, EVER, HALVES, MIXED, TURNS, WALK

NOW = ((1, 0, 0), (2, 1, 0), (0, 3, 0))
TELLER = (WALK, (0, 1, 0), (0, 1))

# Of each function the names of its arguments, in their order, and arguments with their answer.
CALLS = {
    boards.is_board: (("thing",), (TURNS,), True),
    boards.is_stand: (("board", "thing"), (TURNS, (1, 1, 2)), True),
    boards.is_moment: (("board", "thing"), (TURNS, NOW), True),
    moments.handled: (("board", "moment", "wheel"), (TURNS, NOW, 0), ((0, 0, 0), (1, 1, 1), (0, 3, 0))),
    moments.rests: (("board", "moment"), (TURNS, NOW), False),
    moments.is_let: (("board", "moment", "row"), (TURNS, NOW, (0, 2, 2)), False),
    moments.first_wrong: (("board", "moment", "row"), (TURNS, NOW, (0, 2, 2)), 2),
    moments.behind: (("board", "moment", "row"), (TURNS, NOW, (0, 2)), ((0, 0, 1), (1, 1, 0), (0, 4, 0))),
    moments.counts_of: (("board", "row"), (TURNS, (0, 2, 2)), (1, 0, 2)),
    rest.end_of: (("board", "moment"), (TURNS, NOW), ("rests", (2, 2, 1), ((1, 0, 1), (0, 0, 0), (1, 5, 0)))),
    rest.is_end: (
        ("board", "moment", "thing"), (EVER, ((0, 0), (1, 0), (0,)), ("never", (0,), (1, 0, 1, 0))), True,
    ),
    rest.is_enough: (("board", "moment", "thing"), (TURNS, NOW, (2, 2, 1)), True),
    # Which weights, turns and moment are told isn't promised, but that they are the same again.
    drains.drain_of: (("board",), (WALK,), drains.drain_of(WALK)),
    drains.is_drain: (("board", "thing"), (EVER, ("keeps", (2, 4))), True),
    drains.never_moment: (("board",), (EVER,), drains.never_moment(EVER)),
    stands.dropped: (("board", "stand", "drops"), (WALK, (1, 0, 0), (0, 1, 0)), ((1, 1, 1), (2, 3, 1), (1, 0))),
    stands.is_again: (("board", "stand"), (WALK, (0, 1, 0)), False),
    stands.all_again: (("board",), (WALK,), ((0, 0, 0), (1, 0, 0), (1, 1, 0), (1, 1, 1))),
    stands.how_many: (("board",), (WALK,), 4),
    stands.back: (("board", "stand", "wheel"), (WALK, (1, 1, 1), 1), (1, 0, 0)),
    stands.round_of: (("board", "stand", "wheel"), (WALK, (0, 1, 0), 1), (1, 2)),
    stands.led_far: (("board", "stand", "wheel", "many"), (HALVES, (1, 0, 0), 0, 9), ((0, 1, 0), (1,))),
    stands.least_drops: (("board", "stand", "other"), (HALVES, (1, 0, 0), (0, 0, 0)), ("drops", (1, 1, 1))),
    stands.shows_drops: (
        ("board", "stand", "other", "thing"), (HALVES, (1, 0, 0), (0, 0, 0), ("drops", (1, 3, 0))), True,
    ),
    shares.shares: (("board",), (WALK,), (((3, 4), (1, 4)), ((1, 2), (1, 2)), ((1, 4), (3, 4)))),
    shares.owed: (("board", "stand"), (WALK, (1, 0, 0)), ((-1, 4), (1, 4))),
    joins.joined: (
        ("one", "other", "links"), (HALVES, WALK, (1,)),
        ((((), (1,)), ((), (2,)), ((), (4,)), ((6,), (4,)), ((3,), (5,)), ((4,), (7,))), 2),
    ),
    tellers.is_teller: (("thing",), (TELLER,), True),
    tellers.told: (("teller", "word"), (TELLER, (1, 1, 0)), ((1, 0), (0, 1), (1, 0))),
    tellers.parted: (("one", "other"), (TELLER, (WALK, (0, 0, 0), (0, 1))), ("apart", (0, 1))),
    tellers.shows_parted: (
        ("one", "other", "thing"), (TELLER, (WALK, (0, 0, 0), (0, 1)), ("apart", (1, 0))), True,
    ),
    faults.is_fault: (("teller", "thing"), (TELLER, ("off", 1, 0)), True),
    faults.with_fault: (("teller", "fault"), (TELLER, ("off", 1, 0)), (WALK, (0, 0, 0), (0, 1))),
    faults.all_faults: (("teller",), ((HALVES, (0, 0, 0), (0,)),), (
        None, ("lame", 0, 1), ("lame", 1, 1), ("lame", 2, 1), ("blocked", 1), ("blocked", 2), ("blocked", 3),
        ("off", 0, 1), ("off", 1, 1), ("off", 2, 1),
    )),
    faults.fitting: (("teller", "word", "seen"), (TELLER, (0, 1), ((0, 0), (0, 1))), (("lame", 0, 0), ("blocked", 3))),
    faults.parting: (("teller", "one", "other"), (TELLER, None, ("off", 1, 0)), ("apart", (0, 1))),
    texts.board_text: (("board",), (HALVES,), "cups 1\nwheel - 1\nwheel - 2\nwheel - 3\n"),
    texts.read_board: (("text",), ("cups 1\nwheel - 1\nwheel - 2\nwheel - 3\n",), HALVES),
}


def answer(ask, *arguments):
    """What is told, or the class of the error by which it is refused."""
    try:
        return ask(*arguments)
    except MarbleError as error:
        return type(error)


class CallTest(unittest.TestCase):
    def test_names_of_arguments(self):
        for ask, (names, arguments, told) in CALLS.items():
            parameters = inspect.signature(ask).parameters.values()
            self.assertEqual(tuple(one.name for one in parameters), names)
            for one in parameters:
                self.assertEqual((one.kind, one.default), (one.POSITIONAL_OR_KEYWORD, one.empty))

    def test_by_place(self):
        for ask, (names, arguments, told) in CALLS.items():
            self.assertEqual(ask(*arguments), told)

    def test_by_name_in_each_order(self):
        for ask, (names, arguments, told) in CALLS.items():
            for pairs in itertools.permutations(zip(names, arguments)):
                self.assertEqual(ask(**dict(pairs)), told)

    def test_some_by_place_and_some_by_name(self):
        for ask, (names, arguments, told) in CALLS.items():
            for cut in range(len(names) + 1):
                named = dict(reversed(list(zip(names[cut:], arguments[cut:]))))
                self.assertEqual(ask(*arguments[:cut], **named), told)

    def test_the_same_again_and_nothing_changed(self):
        for ask, (names, arguments, told) in CALLS.items():
            before = copy.deepcopy(arguments)
            for again in range(3):
                self.assertEqual(ask(*arguments), told)
                self.assertEqual(arguments, before)

    def test_asked_with_others_between(self):
        for again in range(2):
            for ask, (names, arguments, told) in CALLS.items():
                self.assertEqual(ask(*arguments), told)

    def test_wrong_things_are_not_changed(self):
        lists = ([[[[0]]], 1], [[0, 0, 0], [1, 1, 1], [0, 0]], [0, 1], {"row": [0]}, ([0], {1: [2]}))
        for wrong in ANYTHING + lists:
            before = copy.deepcopy(wrong)
            for ask, (names, arguments, told) in CALLS.items():
                for place in range(len(names)):
                    handed = arguments[:place] + (wrong,) + arguments[place + 1:]
                    self.assertEqual(answer(ask, *handed), answer(ask, *handed))
                    self.assertEqual(repr(wrong), repr(before))

    def test_a_refusal_changes_nothing(self):
        now = ((3, 1, 0), (2, 1, 0), (5, 5))
        for again in range(2):
            with self.assertRaises(MarbleError):
                moments.behind(MIXED, now, (0, 0, 2, 2, 2, 2, 2))
            with self.assertRaises(MarbleError):
                moments.handled(MIXED, now, 2)
            self.assertEqual(now, ((3, 1, 0), (2, 1, 0), (5, 5)))


if __name__ == "__main__":
    unittest.main()
