"""[60] shares, and what stands owe."""

import math
import random
import unittest
from fractions import Fraction

from marblefall.moments import handled
from marblefall.shares import owed, shares
from marblefall.stands import dropped, led_far, round_of
from tests.things import (
    CLIMB, DRAINING, HALVES, LEAST, TURNS, WALK, Told, all_stands, some_boards, some_moment, turn_sums,
)

BOARDS = DRAINING + tuple(some_boards(60, 25, "drains"))


def whole_shares(board):
    """The told shares as numbers, of the wheels and behind them of the cups."""
    cups = board[1]
    of_wheels = [[Fraction(*share) for share in line] for line in shares(board)]
    return of_wheels + [[Fraction(int(cup == own)) for cup in range(cups)] for own in range(cups)]


class Lowest(Told):
    def lowest(self, fraction):
        """That it is a fraction as told in [60]."""
        self.assertEqual((type(fraction), len(fraction)), (tuple, 2))
        top, bottom = fraction
        self.assertEqual((type(top), type(bottom)), (int, int))
        self.assertGreater(bottom, 0)
        self.assertEqual(math.gcd(top, bottom), 1)


class SharesTest(Lowest):
    def test_told_by_hand(self):
        self.assertEqual(shares(HALVES), (((1, 8),), ((1, 4),), ((1, 2),)))
        self.assertEqual(shares(WALK), (((3, 4), (1, 4)), ((1, 2), (1, 2)), ((1, 4), (3, 4))))
        self.assertEqual(
            shares(TURNS),
            (((5, 12), (5, 12), (1, 6)), ((1, 2), (1, 2), (0, 1)), ((1, 3), (1, 3), (1, 3))),
        )
        # More come than are laid: wheel 0 trebles, and lets two of the three into cup 1.
        self.assertEqual(shares(((((1, 2, 2),),), 2)), (((1, 1), (2, 1)),))
        self.assertEqual(shares(((((0, 1, 1), (), (1,)),), 1)), (((3, 2),),))

    def test_no_cups(self):
        self.assertEqual(shares(LEAST), ((),))
        self.assertEqual(shares(CLIMB), ((),) * 6)
        self.assertEqual(owed(LEAST, (0,)), ())
        self.assertEqual(owed(CLIMB, (3, 2, 1, 0, 1, 2)), ())

    def test_a_cup_that_gets_none(self):
        self.assertEqual(shares(((((2,), ()),), 2)), (((0, 1), (1, 2)),))
        self.assertEqual(shares(((((),), ((),)), 2)), (((0, 1), (0, 1)),) * 2)

    def test_the_equation(self):
        for board in BOARDS:
            told = shares(board)
            self.assertEqual((type(told), len(told)), (tuple, len(board[0])))
            for line in told:
                self.assertEqual((type(line), len(line)), (tuple, board[1]))
                for share in line:
                    self.lowest(share)
            whole = whole_shares(board)
            for wheel, steps in enumerate(board[0]):
                sums = turn_sums(board, wheel)
                for cup in range(board[1]):
                    of_ends = sum(times * whole[end][cup] for end, times in enumerate(sums))
                    self.assertEqual(len(steps) * whole[wheel][cup], of_ends, (board, wheel, cup))


class OwedTest(Lowest):
    def test_told_by_hand(self):
        self.assertEqual(owed(HALVES, (1, 0, 0)), ((1, 8),))
        self.assertEqual(owed(HALVES, (1, 0, 1)), ((5, 8),))
        self.assertEqual(owed(HALVES, (1, 1, 1)), ((7, 8),))
        # Wheel 0 sent one into cup 0, of which it was to get 3/4.
        self.assertEqual(owed(WALK, (1, 0, 0)), ((-1, 4), (1, 4)))
        self.assertEqual(owed(WALK, (0, 1, 0)), ((-1, 4), (1, 4)))
        self.assertEqual(owed(WALK, (1, 1, 1)), ((-3, 4), (3, 4)))

    def test_the_stand_of_noughts(self):
        for board in BOARDS:
            self.assertEqual(owed(board, (0,) * len(board[0])), ((0, 1),) * board[1])

    def test_the_words(self):
        for board in BOARDS:
            whole = whole_shares(board)
            for stand in all_stands(board)[::max(1, len(all_stands(board)) // 25)]:
                told = owed(board, stand)
                self.assertEqual((type(told), len(told)), (tuple, board[1]))
                for cup, fraction in enumerate(told):
                    self.lowest(fraction)
                    owing = sum(step * whole[wheel][cup] for wheel, step in enumerate(stand))
                    for steps, step in zip(board[0], stand):
                        owing -= sum(whole[end][cup] for one in steps[:step] for end in one)
                    self.assertEqual(Fraction(*fraction), owing, (board, stand, cup))

    def test_the_same_at_each_moment_of_a_way(self):
        rng = random.Random(61)
        for board in BOARDS:
            whole = whole_shares(board)
            now = some_moment(rng, board, 9)
            sums = set()
            for again in range(40):
                stand, waiting, held = now
                owing = owed(board, stand)
                sums.add(tuple(
                    held[cup] + Fraction(*owing[cup]) + sum(many * line[cup] for many, line in zip(waiting, whole))
                    for cup in range(board[1])
                ))
                ready = [wheel for wheel, many in enumerate(waiting) if many > 0]
                if not ready:
                    break
                now = handled(board, now, rng.choice(ready))
            self.assertEqual(len(sums), 1, board)

    def test_drops_are_paid_or_owed(self):
        for board in BOARDS:
            whole = whole_shares(board)
            noughts = (0,) * len(board[0])
            drops = tuple(range(3, 3 + len(noughts)))
            last, counts, cups = dropped(board, noughts, drops)
            for cup, fraction in enumerate(owed(board, last)):
                due = sum(many * line[cup] for many, line in zip(drops, whole))
                self.assertEqual(cups[cup] + Fraction(*fraction), due)

    def test_over_a_round_each_cup_gets_its_shares(self):
        for board in BOARDS:
            whole = whole_shares(board)
            stand = tuple(len(steps) - 1 for steps in board[0])
            for wheel in range(len(stand)):
                ahead, long = round_of(board, stand, wheel)
                first, before = led_far(board, stand, wheel, ahead)
                last, after = led_far(board, stand, wheel, ahead + long)
                self.assertEqual(first, last)
                for cup in range(board[1]):
                    self.assertEqual(after[cup] - before[cup], long * whole[wheel][cup])


if __name__ == "__main__":
    unittest.main()
