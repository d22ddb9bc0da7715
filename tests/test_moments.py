"""[20] marbles handled, [21] rows, and of [5] that it is one whoever goes first."""

import unittest

from marblefall.boards import is_moment
from marblefall.errors import NoRow, NotNow
from marblefall.moments import behind, counts_of, first_wrong, handled, is_let, rests
from tests.things import BOARDS, EVER, LEAST, MIXED, MOST, ROUND, TURNS, all_waiting, moment


class HandledTest(unittest.TestCase):
    def test_each_step_of_wheel_0(self):
        waiting, held = (5, 6, 7), (8, 9)
        behind_steps = (
            ((1, 0, 0), (4, 7, 8), (9, 9)),
            ((2, 0, 0), (4, 6, 7), (8, 9)),
            ((3, 0, 0), (5, 6, 7), (8, 9)),
            ((0, 0, 0), (6, 6, 7), (8, 10)),
        )
        for step, last in enumerate(behind_steps):
            self.assertEqual(handled(MIXED, ((step, 0, 0), waiting, held), 0), last)

    def test_each_step_of_wheel_1(self):
        self.assertEqual(handled(MIXED, ((2, 0, 0), (5, 6, 7), (8, 9)), 1), ((2, 1, 0), (5, 5, 7), (10, 9)))
        self.assertEqual(handled(MIXED, ((2, 1, 0), (5, 6, 7), (8, 9)), 1), ((2, 0, 0), (6, 5, 7), (8, 10)))

    def test_a_wheel_of_one_step(self):
        self.assertEqual(handled(MIXED, ((3, 1, 0), (5, 6, 7), (8, 9)), 2), ((3, 1, 0), (5, 8, 6), (8, 9)))

    def test_the_last_marble(self):
        self.assertEqual(handled(LEAST, ((0,), (1,), ()), 0), ((0,), (0,), ()))
        self.assertEqual(handled(TURNS, moment(TURNS, (1, 0, 0)), 0), moment(TURNS, (0, 1, 0), (1, 0, 0)))

    def test_the_wheel_itself_as_an_end(self):
        self.assertEqual(handled(ROUND, ((0,), (1,), ()), 0), ((0,), (1,), ()))
        doubling = ((((0, 0),),), 0)
        self.assertEqual(handled(doubling, ((0,), (1,), ()), 0), ((0,), (2,), ()))

    def test_the_same_end_three_times(self):
        start = ((2,) * 6, (1,) * 6, (0,) * 4)
        self.assertEqual(handled(MOST, start, 1), ((2, 3, 2, 2, 2, 2), (1, 3, 1, 1, 1, 1), (0,) * 4))
        start = ((3,) * 6, (1,) * 6, (0,) * 4)
        self.assertEqual(handled(MOST, start, 5), ((3, 3, 3, 3, 3, 0), (1, 1, 1, 1, 1, 0), (0, 0, 0, 3)))

    def test_each_cup_as_an_end(self):
        for cup in range(4):
            board = ((((2 + cup,),), ((),)), 4)
            held = tuple(int(at == cup) for at in range(4))
            self.assertEqual(handled(board, moment(board, (1, 0)), 0), ((0, 0), (0, 0), held))

    def test_a_whole_turn_comes_to_the_same_stand(self):
        for board in BOARDS:
            for wheel, steps in enumerate(board[0]):
                now = all_waiting(board, 4)
                for place in range(len(steps)):
                    self.assertEqual(now[0][wheel], place)
                    now = handled(board, now, wheel)
                self.assertEqual(now[0], (0,) * len(board[0]))

    def test_great_numbers(self):
        much = 10 ** 30
        self.assertEqual(handled(EVER, ((1, 0), (much, much), (much,)), 0), ((0, 0), (much - 1, much + 1), (much + 1,)))

    def test_none_waits(self):
        self.assertRaises(NotNow, handled, LEAST, ((0,), (0,), ()), 0)
        for wheel in range(3):
            waiting = tuple(0 if at == wheel else 3 for at in range(3))
            for stand in ((0, 0, 0), (3, 1, 0)):
                self.assertRaises(NotNow, handled, MIXED, (stand, waiting, (4, 4)), wheel)
                for other in range(3):
                    if other != wheel:
                        handled(MIXED, (stand, waiting, (4, 4)), other)


class RestsTest(unittest.TestCase):
    def test_rests(self):
        for board in BOARDS:
            self.assertIs(rests(board, all_waiting(board, 0)), True)
            self.assertIs(rests(board, all_waiting(board, 1)), False)
        self.assertIs(rests(MIXED, ((3, 1, 0), (0, 0, 0), (7, 0))), True)

    def test_one_waits_at_each_wheel(self):
        for wheel in range(6):
            waiting = tuple(int(at == wheel) for at in range(6))
            self.assertIs(rests(MOST, moment(MOST, waiting)), False)


class RowTest(unittest.TestCase):
    start = moment(TURNS, (2, 0, 0))

    def test_rows_that_are_let(self):
        rows = {
            (): self.start,
            (0,): ((1, 0, 0), (1, 1, 0), (0, 0, 0)),
            (0, 0): ((0, 0, 0), (0, 1, 1), (0, 0, 0)),
            (0, 1): ((1, 1, 0), (1, 0, 0), (1, 0, 0)),
            (0, 0, 2): ((0, 0, 1), (0, 1, 0), (0, 1, 0)),
            (0, 1, 0, 2): ((0, 1, 1), (0, 0, 0), (1, 1, 0)),
            (0, 0, 2, 1): ((0, 1, 1), (0, 0, 0), (1, 1, 0)),
        }
        for row, last in rows.items():
            self.assertIs(is_let(TURNS, self.start, row), True)
            self.assertIsNone(first_wrong(TURNS, self.start, row))
            self.assertEqual(behind(TURNS, self.start, row), last)

    def test_rows_that_are_not_let(self):
        rows = {
            (1,): 0, (2, 0, 0): 0, (1, 0, 1): 0,
            (0, 2, 0): 1, (0, 1, 1, 0): 2, (0, 0, 0, 1, 2): 2,
            (0, 0, 0): 2, (0, 1, 2): 2, (0, 0, 1, 2, 2): 4, (0, 0, 1, 2, 0): 4,
        }
        for row, place in rows.items():
            self.assertIs(is_let(TURNS, self.start, row), False)
            wrong = first_wrong(TURNS, self.start, row)
            self.assertEqual((wrong, wrong is False), (place, False))
            self.assertRaises(NoRow, behind, TURNS, self.start, row)

    def test_a_row_from_another_stand(self):
        start = ((1, 1, 2), (1, 1, 0), (1, 2, 3))
        self.assertEqual(behind(TURNS, start, (0, 2, 1)), ((0, 0, 0), (0, 0, 0), (2, 3, 3)))
        self.assertEqual(first_wrong(TURNS, start, (0, 2, 2)), 2)

    def test_a_row_of_one_is_a_marble_handled(self):
        for board in BOARDS:
            start = all_waiting(board, 1)
            for wheel in range(len(board[0])):
                self.assertEqual(behind(board, start, (wheel,)), handled(board, start, wheel))

    def test_none_at_rest_is_let(self):
        for board in BOARDS:
            start = all_waiting(board, 0)
            self.assertEqual(behind(board, start, ()), start)
            for wheel in range(len(board[0])):
                self.assertEqual(first_wrong(board, start, (wheel,)), 0)

    def test_a_long_row(self):
        row = (0, 1) * 30000
        start = moment(EVER, (1, 0))
        self.assertIs(is_let(EVER, start, row), True)
        self.assertEqual(behind(EVER, start, row), ((0, 0), (1, 0), (15000,)))
        self.assertEqual(first_wrong(EVER, start, row + (0, 0)), 60001)
        self.assertEqual(counts_of(EVER, row), (30000, 30000))


class CountsTest(unittest.TestCase):
    def test_counts(self):
        self.assertEqual(counts_of(MIXED, ()), (0, 0, 0))
        self.assertEqual(counts_of(MIXED, (2,)), (0, 0, 1))
        self.assertEqual(counts_of(MIXED, (0, 2, 0, 2, 0)), (3, 0, 2))
        self.assertEqual(counts_of(MOST, (5, 1, 5, 0, 4, 3, 5)), (1, 1, 0, 1, 1, 3))
        self.assertEqual(counts_of(LEAST, (0, 0)), (2,))

    def test_whole_numbers(self):
        for count in counts_of(MIXED, (0, 1, 1)):
            self.assertIs(type(count), int)

    def test_rows_that_nothing_lets_have_counts(self):
        self.assertEqual(counts_of(TURNS, (2, 2, 2, 1)), (0, 1, 3))


def rows_let(board, start, longest):
    """All rows from the moment that are let, up to this length, each with the moment behind it."""
    found = {(): start}
    last = {(): start}
    for length in range(longest):
        last = {
            row + (wheel,): handled(board, now, wheel)
            for row, now in last.items() for wheel in range(len(board[0])) if now[1][wheel] > 0
        }
        found.update(last)
    return found


class OneTest(unittest.TestCase):
    """[5]: however it is gone, it is one."""

    starts = (
        (LEAST, all_waiting(LEAST, 3)),
        (MOST, moment(MOST, (1, 0, 0, 0, 0, 1))),
        (MIXED, moment(MIXED, (1, 1, 0))),
        (MIXED, ((3, 1, 0), (1, 0, 1), (2, 0))),
        (TURNS, moment(TURNS, (3, 1, 0))),
        (EVER, moment(EVER, (1, 1))),
        (ROUND, all_waiting(ROUND, 1)),
    )

    def each_row(self):
        for board, start in self.starts:
            for row, last in rows_let(board, start, 5).items():
                yield board, start, row, last

    def test_a_row_is_marble_by_marble(self):
        for board, start, row, last in self.each_row():
            self.assertEqual(behind(board, start, row), last)
            self.assertIs(is_moment(board, last), True)

    def test_a_row_in_two_parts(self):
        for board, start, row, last in self.each_row():
            for cut in range(len(row) + 1):
                middle = behind(board, start, row[:cut])
                self.assertEqual(behind(board, middle, row[cut:]), last)
                parts = zip(counts_of(board, row[:cut]), counts_of(board, row[cut:]))
                self.assertEqual(counts_of(board, row), tuple(one + other for one, other in parts))

    def test_two_neighbours_exchanged(self):
        exchanged = 0
        for board, start, row, last in self.each_row():
            for at in range(len(row) - 1):
                other = row[:at] + (row[at + 1], row[at]) + row[at + 2:]
                if is_let(board, start, other):
                    exchanged += other != row
                    self.assertEqual(behind(board, start, other), last)
        self.assertGreater(exchanged, 100)

    def test_rows_of_the_same_counts(self):
        for board, start in self.starts:
            by_counts = {}
            for row in rows_let(board, start, 5):
                by_counts.setdefault(counts_of(board, row), set()).add(behind(board, start, row))
            for counts, lasts in by_counts.items():
                self.assertEqual(len(lasts), 1, counts)

    def test_all_ways_to_rest_come_to_one_moment(self):
        start = moment(TURNS, (3, 1, 0))
        at_rest = {
            (counts_of(TURNS, row), last) for row, last in rows_let(TURNS, start, 9).items() if rests(TURNS, last)
        }
        self.assertEqual(at_rest, {((3, 3, 1), ((1, 1, 1), (0, 0, 0), (2, 2, 0)))})


if __name__ == "__main__":
    unittest.main()
