"""[10] boards, [11] stands and moments."""

import unittest

from marblefall.boards import is_board, is_moment, is_stand
from marblefall.errors import NoBoard
from tests.things import (
    BOARDS, EVER, LEAST, MIXED, MOST, WRONG, Told, all_waiting, moment, number_paths, part_at, tuple_paths, with_part,
)

# What can't stand where a whole number from 0 to 9 is to stand.
NO_NUMBERS = (True, False, None, -1, -9999999999999, "0", "", (), (0,), [0], {}, {0: 0})


def one_step(ends, cups=0, wheels=1):
    """A board of so many wheels, each with one step of these ends."""
    return (((ends,),) * wheels, cups)


class BoardTest(Told):
    def test_boards(self):
        for board in BOARDS:
            self.yes(is_board(board), board)

    def test_how_many_wheels(self):
        for many in range(1, 7):
            self.yes(is_board(one_step((), wheels=many)), many)
        for many in (0, 7, 8):
            self.no(is_board(one_step((), wheels=many)), many)

    def test_how_many_cups(self):
        for many in range(0, 5):
            self.yes(is_board(one_step((), cups=many)), many)
        for many in (-2, -1, 5, 6, 9999999999999):
            self.no(is_board(one_step((), cups=many)), many)

    def test_how_many_steps(self):
        for many in range(1, 5):
            self.yes(is_board(((((),) * many,), 0)), many)
        for many in (0, 5, 6):
            self.no(is_board(((((),) * many,), 0)), many)

    def test_each_wheel_is_looked_at(self):
        for place in range(6):
            wheels = [((),)] * 6
            for wrong in ((), ((),) * 5, ((0, 0, 0, 0),), ((6,),)):
                wheels[place] = wrong
                self.no(is_board((tuple(wheels), 0)), wheels)

    def test_each_step_is_looked_at(self):
        for place in range(4):
            steps = [()] * 4
            for wrong in ((0, 0, 0, 0), (1,), (0, -1)):
                steps[place] = wrong
                self.no(is_board(((tuple(steps),), 0)), steps)

    def test_how_many_ends(self):
        for many in range(0, 4):
            self.yes(is_board(one_step((0,) * many)), many)
        for many in (4, 5):
            self.no(is_board(one_step((0,) * many)), many)

    def test_which_ends(self):
        for wheels in range(1, 7):
            for cups in range(5):
                for end in range(wheels + cups):
                    self.yes(is_board(one_step((end,), cups, wheels)), (wheels, cups, end))
                for end in (-1, -wheels, wheels + cups, wheels + cups + 1, 9999999999999):
                    self.no(is_board(one_step((end,), cups, wheels)), (wheels, cups, end))

    def test_an_end_beyond_at_each_place_of_a_step(self):
        for step in ((3, 0, 0), (0, 3, 0), (0, 0, 3)):
            self.no(is_board(one_step(step, cups=2)), step)
            self.yes(is_board(one_step(step, cups=3)), step)

    def test_an_end_twice_in_a_step(self):
        self.yes(is_board(one_step((0, 0))))
        self.yes(is_board(one_step((1, 0, 1), cups=1)))

    def test_a_board_without_cups(self):
        self.yes(is_board(one_step((1, 0), cups=0, wheels=2)))
        self.no(is_board(one_step((2,), cups=0, wheels=2)))

    def test_too_few_and_too_many_parts(self):
        wheels, cups = MIXED
        for thing in ((), (wheels,), (cups,), (wheels, cups, 0), (wheels, cups, ()), wheels, cups, (cups, wheels)):
            self.no(is_board(thing), thing)

    def test_each_number_otherwise(self):
        for board in (MIXED, MOST, EVER):
            for path in number_paths(board):
                for wrong in NO_NUMBERS + (11,):
                    self.no(is_board(with_part(board, path, wrong)), (path, wrong))

    def test_each_tuple_otherwise(self):
        for board in (LEAST, MIXED, EVER):
            for path in tuple_paths(board):
                part = part_at(board, path)
                for wrong in (list(part), dict(enumerate(part)), None, 0, True, "", "ab", [part]):
                    self.no(is_board(with_part(board, path, wrong)), (path, wrong))

    def test_anything(self):
        for thing in WRONG:
            self.no(is_board(thing), thing)


class StandTest(Told):
    def test_stands(self):
        self.yes(is_stand(LEAST, (0,)))
        for first in range(4):
            for second in range(2):
                self.yes(is_stand(MIXED, (first, second, 0)))
        self.yes(is_stand(MOST, (3,) * 6))

    def test_beyond_the_last_step(self):
        for stand in ((4, 0, 0), (0, 2, 0), (0, 0, 1), (3, 1, 1), (9999999999999, 0, 0), (2, 3, 0)):
            self.no(is_stand(MIXED, stand), stand)
        self.no(is_stand(LEAST, (1,)))

    def test_too_few_and_too_many_parts(self):
        for many in (0, 1, 2, 4, 5):
            self.no(is_stand(MIXED, (0,) * many), many)
        self.no(is_stand(LEAST, ()))
        self.no(is_stand(LEAST, (0, 0)))

    def test_each_number_otherwise(self):
        for place in range(3):
            for wrong in NO_NUMBERS:
                self.no(is_stand(MIXED, with_part((1, 1, 0), (place,), wrong)), (place, wrong))

    def test_other_things(self):
        for thing in WRONG + ([1, 1, 0], "110", {0: 1, 1: 1, 2: 0}, ((1, 1, 0),), 0, 1, ()):
            self.no(is_stand(MIXED, thing), thing)

    def test_of_what_is_no_board(self):
        for board in WRONG + ((), (MIXED[0],), list(MIXED), (MIXED[0], True), (MIXED[0], 1)):
            for thing in ((0, 0, 0), (0,), None):
                self.assertRaises(NoBoard, is_stand, board, thing)


class MomentTest(Told):
    def test_moments(self):
        for board in BOARDS:
            self.yes(is_moment(board, all_waiting(board, 0)), board)
            self.yes(is_moment(board, all_waiting(board, 1000)), board)
        self.yes(is_moment(MIXED, ((3, 1, 0), (0, 7, 2), (5, 0))))
        self.yes(is_moment(LEAST, ((0,), (0,), ())))

    def test_more_than_are_handed_in_at_first_may_wait(self):
        self.yes(is_moment(MIXED, ((0, 0, 0), (1001, 9999999999999, 0), (9999999999999, 0))))
        self.yes(is_moment(MIXED, ((0, 0, 0), (10 ** 40, 0, 0), (0, 10 ** 40))))

    def test_too_few_and_too_many_parts(self):
        stand, waiting, held = (0, 0, 0), (1, 2, 3), (0, 0)
        short_and_long = (
            (), (stand,), (stand, waiting), (stand, waiting, held, ()), (stand, waiting, held, 0),
            ((0, 0), waiting, held), ((0, 0, 0, 0), waiting, held),
            (stand, (1, 2), held), (stand, (), held), (stand, (1, 2, 3, 4), held),
            (stand, waiting, ()), (stand, waiting, (0,)), (stand, waiting, (0, 0, 0)),
        )
        for thing in short_and_long:
            self.no(is_moment(MIXED, thing), thing)
        self.no(is_moment(LEAST, ((0,), (0,), (0,))))
        self.no(is_moment(LEAST, ((0,), (0,))))

    def test_the_stand_is_looked_at(self):
        for stand in ((4, 0, 0), (0, 2, 0), (0, 0, 1)):
            self.no(is_moment(MIXED, (stand, (0, 0, 0), (0, 0))), stand)

    def test_each_number_otherwise(self):
        thing = ((1, 1, 0), (1, 0, 1), (0, 1))
        self.yes(is_moment(MIXED, thing))
        for path in number_paths(thing):
            for wrong in NO_NUMBERS:
                self.no(is_moment(MIXED, with_part(thing, path, wrong)), (path, wrong))

    def test_each_tuple_otherwise(self):
        thing = ((1, 1, 0), (1, 0, 1), (0, 1))
        for path in tuple_paths(thing):
            part = part_at(thing, path)
            for wrong in (list(part), dict(enumerate(part)), None, 0, True, "", "abc", (part,)):
                self.no(is_moment(MIXED, with_part(thing, path, wrong)), (path, wrong))

    def test_no_cups_but_no_tuple(self):
        for held in ([], {}, "", None, 0, False):
            self.no(is_moment(LEAST, ((0,), (0,), held)), held)

    def test_other_things(self):
        for thing in WRONG + (MIXED, (1, 1, 0), 0, ()):
            self.no(is_moment(MIXED, thing), thing)

    def test_of_what_is_no_board(self):
        for board in WRONG + ((), (MIXED[0],), list(MIXED), (MIXED[0], True), (MIXED[0], 1)):
            for thing in (moment(MIXED, (0, 0, 0)), ((0,), (0,), ()), None):
                self.assertRaises(NoBoard, is_moment, board, thing)


if __name__ == "__main__":
    unittest.main()
