"""[40] boards that drain and boards that keep."""

import itertools
import random
import unittest

from marblefall.boards import is_moment
from marblefall.drains import drain_of, is_drain, never_moment
from marblefall.errors import NotNow
from marblefall.rest import end_of, is_end
from tests.things import (
    ANYTHING, DOUBLER, DRAINING, EVER, HALVES, KEEPING, LEAST, MIXED, RING, ROUND, TREBLER, TURNS, WALK, Told,
    all_waiting, some_boards, some_moment, turn_sums, with_part,
)


def shown_drains(board, weights):
    """Whether the weights show that the board drains, by the sums of [40]."""
    wheels = board[0]
    for wheel, steps in enumerate(wheels):
        weight = sum(weights[end] for step in steps for end in step if end < len(wheels))
        if weights[wheel] <= 0 or weight >= weights[wheel] * len(steps):
            return False
    return True


def shown_keeps(board, turns):
    """Whether the turns show that the board keeps, by the sums of [40]."""
    wheels = board[0]
    if min(turns) < 0 or max(turns) == 0:
        return False
    for wheel, steps in enumerate(wheels):
        coming = sum(many * turn_sums(board, other)[wheel] for other, many in enumerate(turns))
        if coming < turns[wheel] * len(steps):
            return False
    return True


SHOWN = {"drains": shown_drains, "keeps": shown_keeps}


class DrainTest(Told):
    def told_so(self, board, kind):
        """That the board is told to be of this kind, with what shows it."""
        told = drain_of(board)
        self.assertIs(type(told), tuple)
        self.assertEqual((len(told), told[0]), (2, kind), board)
        numbers = told[1]
        self.assertIs(type(numbers), tuple)
        self.assertEqual([type(number) for number in numbers], [int] * len(board[0]))
        self.assertTrue(SHOWN[kind](board, numbers), (board, told))
        self.yes(is_drain(board, told), (board, told))
        return numbers

    def test_boards_that_drain(self):
        for board in DRAINING:
            self.told_so(board, "drains")

    def test_boards_that_keep(self):
        for board in KEEPING:
            self.told_so(board, "keeps")

    def test_a_wheel_alone(self):
        for steps in range(1, 5):
            for ends in range(0, 3 * steps + 1):
                numbers = [min(3, max(0, ends - 3 * place)) for place in range(steps)]
                board = ((tuple((0,) * many for many in numbers),), 0)
                self.told_so(board, "drains" if ends < steps else "keeps")

    def test_marbles_into_cups_weigh_nothing(self):
        board = ((((1, 2, 3), (4, 4, 4), (1, 1, 1), (0, 1, 2)),), 4)
        self.told_so(board, "drains")

    def test_a_part_that_keeps_marbles(self):
        # Wheel 0 drains into wheel 1, which keeps; and a ring of which wheel 2 gets none.
        self.told_so(((((1,), ()), ((1,),)), 0), "keeps")
        self.told_so(((((), ()), ((),), ((3,),), ((2,),)), 0), "keeps")
        self.told_so(((((), (5,)), ((),), ((2,),), ((),), ((0,),), ((4, 3),)), 0), "keeps")

    def test_just_at_the_bound(self):
        # Wheel 0 doubles, wheel 1 lets three in four on: by the last one 1/2, 3/4, 1 or 9/8 of a marble come back.
        for last, kind in (
            (((0,), (), ()), "drains"), (((0, 0), (), (), ()), "drains"), (((), (0,), (0,)), "keeps"),
            (((0,), (0,), (), (0,)), "keeps"),
        ):
            self.told_so(((((1, 1),), ((2,), (2,), (2,), ()), last), 0), kind)

    def test_the_last_wheel_decides(self):
        for many in range(1, 7):
            chain = [((wheel + 1,),) for wheel in range(many - 1)]
            self.told_so((tuple(chain + [((0,), ())]), 0), "drains")
            self.told_so((tuple(chain + [((0,),)]), 0), "keeps")
            self.told_so((tuple(chain + [((0, 0), ())]), 0), "keeps")

    def test_boards_by_chance(self):
        for kind in ("drains", "keeps"):
            for board in some_boards(40, 40, kind):
                self.told_so(board, kind)

    def test_moments_of_boards_that_drain_rest(self):
        rng = random.Random(41)
        for board in some_boards(42, 15, "drains"):
            for now in (all_waiting(board, 1000), some_moment(rng, board, 20)):
                self.assertEqual(end_of(board, now)[0], "rests")


class IsDrainTest(Told):
    boards = DRAINING + KEEPING + tuple(some_boards(43, 8))

    def test_numbers_otherwise(self):
        answers = {True: 0, False: 0}
        for board in self.boards:
            word, numbers = drain_of(board)
            tries = [tuple(2 * number for number in numbers), tuple(10 ** 40 * number for number in numbers)]
            tries += [tuple(max(0, number - 1) for number in numbers), tuple(number + 1 for number in numbers)]
            for place, number in enumerate(numbers):
                others = (number + 1, number - 1, 0, 2 * number, 10 ** 12)
                tries += [with_part(numbers, (place,), one) for one in others]
            for one in tries:
                answer = is_drain(board, (word, one))
                self.assertIs(answer, min(one) >= 0 and SHOWN[word](board, one), (board, word, one))
                answers[answer] += 1
            self.yes(is_drain(board, (word, tries[0])))
            self.yes(is_drain(board, (word, tries[1])))
        self.assertGreater(min(answers.values()), 50)

    def test_all_numbers_in_a_box(self):
        answers = {}
        for board in (LEAST, ROUND, DOUBLER, TREBLER, RING, EVER, HALVES, TURNS, WALK, MIXED):
            for numbers in itertools.product(range(7), repeat=len(board[0])):
                for word in ("drains", "keeps"):
                    answer = is_drain(board, (word, numbers))
                    self.assertIs(answer, SHOWN[word](board, numbers), (board, word, numbers))
                    answers[word, answer] = answers.get((word, answer), 0) + 1
        self.assertGreater(min(answers.values()), 20)
        self.assertEqual(len(answers), 4)

    def test_just_at_the_bound(self):
        self.no(is_drain(WALK, ("drains", (1, 2, 1))))
        self.no(is_drain(WALK, ("drains", (2, 2, 2))))
        self.yes(is_drain(WALK, ("drains", (3, 4, 3))))
        self.yes(is_drain(EVER, ("keeps", (1, 2))))
        self.no(is_drain(EVER, ("keeps", (1, 1))))
        self.no(is_drain(EVER, ("keeps", (1, 3))))

    def test_the_other_word(self):
        for board in self.boards:
            word, numbers = drain_of(board)
            other = "keeps" if word == "drains" else "drains"
            for wrong in (other, "", "Drains", "drain", word + " ", [word], (word,), None, True, 0):
                self.no(is_drain(board, (wrong, numbers)), (board, wrong))

    def test_noughts(self):
        for board in self.boards:
            for word in ("drains", "keeps"):
                self.no(is_drain(board, (word, (0,) * len(board[0]))), (board, word))

    def test_numbers_below_nought(self):
        for board in self.boards:
            word, numbers = drain_of(board)
            self.no(is_drain(board, (word, tuple(-number for number in numbers))))
            for word, place in itertools.product(("drains", "keeps"), range(len(numbers))):
                self.no(is_drain(board, (word, with_part((1,) * len(numbers), (place,), -1))))

    def test_truths_and_other_kinds(self):
        self.yes(is_drain(LEAST, ("drains", (1,))))
        self.yes(is_drain(ROUND, ("keeps", (1,))))
        self.yes(is_drain(RING, ("keeps", (1, 1))))
        for wrong in (True, False, None, "1", (1,), [1], {}, {1: 1}):
            self.no(is_drain(LEAST, ("drains", (wrong,))), wrong)
            self.no(is_drain(ROUND, ("keeps", (wrong,))), wrong)
            self.no(is_drain(RING, ("keeps", (1, wrong))), wrong)
            self.no(is_drain(RING, ("keeps", (wrong, 1))), wrong)

    def test_too_few_and_too_many(self):
        for board in self.boards:
            word, numbers = drain_of(board)
            for wrong in (numbers[1:], numbers[:-1], numbers + (1,), numbers + (0,), (), list(numbers), (numbers,),
                          dict(enumerate(numbers)), numbers[0], str(numbers)):
                self.no(is_drain(board, (word, wrong)), (board, wrong))
            for thing in ((word,), (numbers,), (word, numbers, ()), (word, numbers, numbers), [word, numbers],
                          (numbers, word), ((word, numbers),), {word: numbers}, word, numbers):
                self.no(is_drain(board, thing), (board, thing))

    def test_anything(self):
        for board in DRAINING + KEEPING:
            for thing in ANYTHING:
                self.no(is_drain(board, thing), thing)


class NeverMomentTest(Told):
    def test_boards_that_keep(self):
        for board in KEEPING + tuple(some_boards(44, 40, "keeps")):
            now = never_moment(board)
            self.yes(is_moment(board, now), (board, now))
            self.assertEqual((now[0], now[2]), ((0,) * len(board[0]), (0,) * board[1]))
            told = end_of(board, now)
            self.assertEqual(told[0], "never", (board, now))
            self.yes(is_end(board, now, told))

    def test_boards_that_drain(self):
        for board in DRAINING + tuple(some_boards(45, 10, "drains")):
            self.assertRaises(NotNow, never_moment, board)


if __name__ == "__main__":
    unittest.main()
