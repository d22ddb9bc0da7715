"""[100] hands."""

import inspect
import random
import unittest

from marblefall.errors import NoBoard, NoHands, NoMoment, NoNumber
from marblefall.hands import beats, rows_of
from marblefall.moments import behind, counts_of, handled, is_let, rests
from marblefall.rest import end_of
from tests.things import (
    ANYTHING, BOARDS, CLIMB, DRAINING, EVER, HALVES, KEEPING, LEAST, NEVERS, RING, ROUND, STANDS_648, TREBLER, TURNS,
    WALK, Told, all_waiting, moment, some_boards, some_moment,
)

HANDS = range(1, 7)

# A wheel that doubles, one that halves and one that keeps each third for itself.
MILL = ((((1, 1),), ((), (2,)), ((2,), (3,), (4, 0))), 2)


def beat_by_beat(board, now, hands, most):
    """The rows of the first beats, at most so many, handled marble by marble."""
    rows = []
    while len(rows) < most and any(now[1]):
        row = tuple([wheel for wheel, many in enumerate(now[1]) if many > 0][:hands])
        for wheel in row:
            now = handled(board, now, wheel)
        rows.append(row)
    return tuple(rows)


def count_beats(board, now, hands):
    """How many beats there are to the rest, counted one by one; faster than by rows."""
    wheels = board[0]
    stand, waiting = list(now[0]), list(now[1]) + [0] * board[1]
    done = 0
    while any(waiting[:len(wheels)]):
        for wheel in [wheel for wheel in range(len(wheels)) if waiting[wheel] > 0][:hands]:
            waiting[wheel] -= 1
            for end in wheels[wheel][stand[wheel]]:
                waiting[end] += 1
            stand[wheel] = (stand[wheel] + 1) % len(wheels[wheel])
        done += 1
    return done


def resting(seed, each, most):
    """Boards, some that drain and some that keep, with moments that rest, by chance."""
    rng = random.Random(seed)
    for kind in ("drains", "keeps"):
        for board in some_boards(seed, each, kind):
            now = some_moment(rng, board, most)
            if end_of(board, now)[0] == "rests":
                yield board, now


class BeatsTest(Told):
    def test_told_by_hand(self):
        # Each wheel lets one in two on: 4 and 2 and 1 are handled, the first one at wheel 1 beside one at wheel 0.
        self.assertEqual(beats(HALVES, moment(HALVES, (4, 0, 0))), 7)
        self.assertEqual(beats(HALVES, moment(HALVES, (4, 0, 0)), hands=2), 6)
        self.assertEqual(beats(LEAST, all_waiting(LEAST, 5), hands=6), 5)
        self.assertEqual(beats(((((),),) * 6, 0), ((0,) * 6, (3,) * 6, ())), 18)
        for hands, told in ((1, 18), (2, 9), (3, 6), (4, 6), (5, 6), (6, 3)):
            self.assertEqual(beats(((((),),) * 6, 0), ((0,) * 6, (3,) * 6, ()), hands=hands), told)

    def test_at_rest(self):
        for board in BOARDS + DRAINING + KEEPING:
            for hands in HANDS:
                now = moment(board, (0,) * len(board[0]), held=(7,) * board[1])
                self.assertEqual(beats(board, now, hands=hands), 0)
                for many in (0, 1, 500):
                    self.assertEqual(rows_of(board, now, many, hands=hands), ())

    def test_beat_by_beat(self):
        seen = 0
        for board, now in resting(100, 12, 20):
            for hands in HANDS:
                rows = beat_by_beat(board, now, hands, 10 ** 6)
                self.assertEqual(beats(board, now, hands=hands), len(rows), (board, now, hands))
                seen += len(rows) > 20
        self.assertGreater(seen, 100)

    def test_never(self):
        for board, now in NEVERS:
            for hands in HANDS:
                self.assertIs(beats(board, now, hands=hands), None, (board, now))

    def test_kept_and_at_rest_all_the_same(self):
        self.assertEqual(beats(TREBLER, ((0,), (1,), (3,)), hands=3), 1)
        self.assertEqual(beats(TREBLER, ((2,), (2,), (3,)), hands=3), 2)

    def test_one_hand_where_hands_are_left_out(self):
        for board, now in resting(101, 15, 40):
            told = beats(board, now)
            self.assertEqual(told, beats(board, now, hands=1))
            self.assertEqual(told, sum(end_of(board, now)[1]))
            self.assertEqual(rows_of(board, now, 30), rows_of(board, now, 30, hands=1))

    def test_no_fewer_and_no_more_than_the_counts_tell(self):
        for board, now in resting(102, 20, 60):
            counts = end_of(board, now)[1]
            for hands in HANDS:
                told = beats(board, now, hands=hands)
                self.assertGreaterEqual(told, max(counts))
                self.assertGreaterEqual(told * hands, sum(counts))
                self.assertLessEqual(told, sum(counts))
        # Where there is a hand for each wheel more hands are of no use.
        for board, now in resting(103, 5, 20):
            self.assertEqual(
                {beats(board, now, hands=hands) for hands in range(len(board[0]), 7)},
                {beats(board, now, hands=6)},
            )

    def test_many_waiting(self):
        for board in (LEAST, TURNS, HALVES, WALK, MILL, STANDS_648):
            for many in (100, 999, 1000):
                for hands in HANDS:
                    now = all_waiting(board, many)
                    self.assertEqual(beats(board, now, hands=hands), count_beats(board, now, hands), (board, hands))
        for board, now in resting(104, 8, 1000):
            for hands in (2, 3, 4, 6):
                self.assertEqual(beats(board, now, hands=hands), count_beats(board, now, hands), (board, now, hands))

    def test_a_million_beats(self):
        # Found by beats gone through one by one.
        self.assertEqual(beats(CLIMB, all_waiting(CLIMB, 1000)), 1858000)
        for hands in range(2, 7):
            self.assertEqual(beats(CLIMB, all_waiting(CLIMB, 1000), hands=hands), 1180151)

    def test_more_waiting_than_are_handed_in_first(self):
        # Told moments may have more than 1,000 waiting.
        for board in (HALVES, WALK, MILL):
            now = all_waiting(board, 4001)
            for hands in (2, 3):
                self.assertEqual(beats(board, now, hands=hands), count_beats(board, now, hands))


class RowsTest(Told):
    def test_told_by_hand(self):
        now = moment(HALVES, (4, 0, 0))
        self.assertEqual(rows_of(HALVES, now, 500), ((0,), (0,), (0,), (0,), (1,), (1,), (2,)))
        self.assertEqual(rows_of(HALVES, now, 500, hands=2), ((0,), (0,), (0, 1), (0,), (1,), (2,)))
        self.assertEqual(rows_of(HALVES, now, 3, hands=2), ((0,), (0,), (0, 1)))
        # Which wheels are handled is told by where marbles wait as the beat begins.
        self.assertEqual(rows_of(RING, ((0, 0), (1, 0), ()), 3, hands=2), ((0,), (1,), (0,)))
        self.assertEqual(rows_of(RING, ((0, 0), (1, 1), ()), 2, hands=2), ((0, 1), (0, 1)))
        self.assertEqual(rows_of(RING, ((0, 0), (1, 1), ()), 4), ((0,), (1,), (0,), (1,)))
        still = ((((),),) * 6, 0)
        self.assertEqual(rows_of(still, ((0,) * 6, (1, 0, 2, 1, 0, 1), ()), 9, hands=3), ((0, 2, 3), (2, 5)))

    def test_none_of_them(self):
        for board in BOARDS + DRAINING:
            for hands in HANDS:
                self.assertEqual(rows_of(board, all_waiting(board, 3), 0, hands=hands), ())

    def test_beat_by_beat(self):
        for board, now in resting(105, 8, 6):
            for hands in HANDS:
                rows = beat_by_beat(board, now, hands, 500)
                for many in {0, 1, 2, len(rows) - 1, len(rows), len(rows) + 1, 499, 500} & set(range(501)):
                    told = rows_of(board, now, many, hands=hands)
                    self.assertEqual(told, rows[:many], (board, now, hands, many))
                    self.assertIs(type(told), tuple)
                    self.assertTrue(all(type(row) is tuple for row in told))

    def test_of_a_moment_that_never_rests(self):
        for board, now in NEVERS:
            for hands in (1, 2, 6):
                told = rows_of(board, now, 500, hands=hands)
                self.assertEqual(len(told), 500)
                self.assertEqual(told, beat_by_beat(board, now, hands, 500))

    def test_put_together_they_are_let_and_have_the_told_counts(self):
        whole = 0
        for board, now in resting(106, 15, 30):
            word, counts, last = end_of(board, now)
            for hands in HANDS:
                rows = rows_of(board, now, 500, hands=hands)
                row = sum(rows, ())
                self.yes(is_let(board, now, row))
                self.assertTrue(all(1 <= len(one) <= hands for one in rows))
                if beats(board, now, hands=hands) <= 500:
                    whole += 1
                    self.assertEqual(len(rows), beats(board, now, hands=hands))
                    self.assertEqual(counts_of(board, row), counts)
                    self.assertEqual(behind(board, now, row), last)
                else:
                    self.assertEqual(len(rows), 500)
                    self.no(rests(board, behind(board, now, row)))
        self.assertGreater(whole, 100)

    def test_many_waiting(self):
        for board in (TURNS, WALK, MILL, EVER, ROUND):
            for hands in HANDS:
                now = all_waiting(board, 1000)
                self.assertEqual(rows_of(board, now, 500, hands=hands), beat_by_beat(board, now, hands, 500))


class HandsRefusedTest(Told):
    now = moment(WALK, (1, 2, 0))

    def test_no_hands(self):
        for hands in (0, 7, -1, 8, True, False, None, "1", (), (1,), [1], {}, 9999999999999):
            with self.assertRaises(NoHands):
                beats(WALK, self.now, hands=hands)
            with self.assertRaises(NoHands):
                rows_of(WALK, self.now, 5, hands=hands)
        for hands in [thing for thing in ANYTHING if thing not in (1, 6) or isinstance(thing, bool)]:
            with self.assertRaises(NoHands):
                beats(WALK, self.now, hands=hands)

    def test_no_number(self):
        for many in (-1, 501, 502, True, False, None, "5", (), (5,), [5], {}, 9999999999999):
            with self.assertRaises(NoNumber):
                rows_of(WALK, self.now, many)
            with self.assertRaises(NoNumber):
                rows_of(WALK, self.now, many, hands=0)
        self.assertEqual(len(rows_of(ROUND, moment(ROUND, (1,)), 500)), 500)

    def test_which_is_first(self):
        bad_board, bad_moment = (WALK[0], 5), ((0, 0, 0), (1, -1, 0), (0, 0))
        for many in (5, 501):
            for hands in (1, 7):
                for now in (self.now, bad_moment):
                    with self.assertRaises(NoBoard):
                        rows_of(bad_board, now, many, hands=hands)
                    with self.assertRaises(NoBoard):
                        beats(bad_board, now, hands=hands)
                with self.assertRaises(NoMoment):
                    rows_of(WALK, bad_moment, many, hands=hands)
                with self.assertRaises(NoMoment):
                    beats(WALK, bad_moment, hands=hands)
        # Hands are looked at, too, where there is nothing to handle or it never rests.
        with self.assertRaises(NoHands):
            beats(WALK, moment(WALK, (0, 0, 0)), hands=7)
        with self.assertRaises(NoHands):
            beats(RING, moment(RING, (1, 0)), hands=0)
        with self.assertRaises(NoHands):
            rows_of(WALK, self.now, 0, hands=7)

    def test_hands_by_its_name_alone(self):
        self.assertRaises(TypeError, beats, WALK, self.now, 2)
        self.assertRaises(TypeError, rows_of, WALK, self.now, 5, 2)
        for ask, names in ((beats, ["board", "moment"]), (rows_of, ["board", "moment", "many"])):
            parameters = list(inspect.signature(ask).parameters.values())
            self.assertEqual([one.name for one in parameters], names + ["hands"])
            self.assertTrue(all(one.kind == one.POSITIONAL_OR_KEYWORD for one in parameters[:-1]))
            self.assertEqual((parameters[-1].kind, parameters[-1].default), (parameters[-1].KEYWORD_ONLY, 1))

    def test_by_name_in_another_order_and_again(self):
        for again in range(2):
            self.assertEqual(beats(hands=2, moment=self.now, board=WALK), beats(WALK, self.now, hands=2))
            self.assertEqual(
                rows_of(many=4, hands=3, moment=self.now, board=WALK), rows_of(WALK, self.now, 4, hands=3),
            )
            self.assertEqual(self.now, ((0, 0, 0), (1, 2, 0), (0, 0)))


if __name__ == "__main__":
    unittest.main()
