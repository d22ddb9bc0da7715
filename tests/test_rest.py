"""[30] ends of moments, [31] counts that are enough, and of [5] that it is one whoever goes first."""

import itertools
import random
import unittest

from marblefall.boards import is_moment
from marblefall.moments import behind, counts_of, first_wrong, handled, is_let, rests
from marblefall.rest import end_of, is_end, is_enough
from tests.things import (
    ANYTHING, BOARDS, CLIMB, DOUBLER, DRAINING, EVER, HALVES, KEEPING, LEAST, MIXED, MOST, NEVERS, RING, ROUND,
    STANDS_576, TREBLER, TURNS, WALK, Told, all_waiting, moment, number_paths, one_by_one, part_at, some_board,
    some_boards, some_moment, tuple_paths, with_part,
)

# Moments that rest on boards that keep.
RESTS_WHERE_KEPT = (
    (TREBLER, ((0,), (1,), (3,))),
    (TREBLER, ((2,), (2,), (3,))),
    (((((), (1,)), ((), (2,)), ((), (3,)), ((3,),)), 0), moment(((0,) * 4, 0), (7, 0, 0, 0))),
    (((((2,), ()), ((0, 1),), ((),)), 0), ((0, 0, 0), (900, 0, 900), ())),
    (MIXED, ((1, 0, 0), (1, 1, 0), (0, 0))),
)

RESTS = ((TURNS, moment(TURNS, (3, 1, 0))), (WALK, ((1, 0, 1), (1, 2, 0), (0, 1)))) + RESTS_WHERE_KEPT


def let_one_by_one(board, now, row):
    """The moment behind the row, handled one marble at a time; None where it isn't let."""
    for wheel in row:
        if now[1][wheel] == 0:
            return None
        now = handled(board, now, wheel)
    return now


def shown_never(board, now, ahead, again):
    """Whether these two rows show that the moment never rests."""
    first = let_one_by_one(board, now, ahead)
    if first is None or len(again) == 0:
        return False
    last = let_one_by_one(board, first, again)
    if last is None or last[0] != first[0]:
        return False
    return all(one <= other for one, other in zip(first[1], last[1]))


def other_rows(wheels, row):
    """Rows like this one but with something otherwise."""
    yield from (row[1:], row[:-1], row[::-1], row + row, row[1:] + row[:1], ())
    for wheel in range(wheels):
        yield row + (wheel,)
        yield (wheel,) + row
        yield (wheel,)
        yield tuple(one for one in row if one != wheel)
    for at in range(0, len(row), max(1, len(row) // 12)):
        yield row[:at] + row[at + 1:]
        yield row[:at] + row[at:at + 1] + row[at:]
        for wheel in range(wheels):
            yield row[:at] + (wheel,) + row[at + 1:]


class EndTest(Told):
    def rests_so(self, board, now, most=100000):
        """That the told end is ("rests", ..) and that marble by marble it is the same."""
        told = end_of(board, now)
        self.assertEqual((len(told), told[0]), (3, "rests"), (board, now))
        for pick in (max, min):
            self.assertEqual(told[1:], one_by_one(board, now, pick, most), (board, now))
        self.assertTrue(rests(board, told[2]))
        self.yes(is_end(board, now, told), (board, now))
        return told

    def never_so(self, board, now):
        """That the told end is ("never", ..) and shows it."""
        told = end_of(board, now)
        self.assertEqual((len(told), told[0]), (3, "never"), (board, now))
        word, ahead, again = told
        self.assertIs(type(ahead), tuple)
        self.assertIs(type(again), tuple)
        self.assertGreaterEqual(len(again), 1)
        self.assertIsNone(first_wrong(board, now, ahead))
        first = behind(board, now, ahead)
        self.assertIsNone(first_wrong(board, first, again))
        last = behind(board, first, again)
        self.assertEqual(last[0], first[0])
        self.assertTrue(all(one <= other for one, other in zip(first[1], last[1])))
        self.assertTrue(is_let(board, now, ahead + again * 5))
        self.yes(is_end(board, now, told), (board, now))
        return told

    def test_at_once(self):
        for board in BOARDS + DRAINING + KEEPING:
            noughts = (0,) * len(board[0])
            for stand in (noughts, tuple(len(steps) - 1 for steps in board[0])):
                now = (stand, noughts, (3,) * board[1])
                self.assertEqual(end_of(board, now), ("rests", noughts, now))
                self.yes(is_end(board, now, ("rests", noughts, now)))

    def test_behind_some_marbles(self):
        told = {
            (TURNS, moment(TURNS, (3, 1, 0))): ((3, 3, 1), ((1, 1, 1), (0, 0, 0), (2, 2, 0))),
            (HALVES, moment(HALVES, (8, 0, 0))): ((8, 4, 2), ((0, 0, 0), (0, 0, 0), (1,))),
            (HALVES, ((0, 0, 0), (7, 0, 1), (5,))): ((7, 3, 2), ((1, 1, 0), (0, 0, 0), (6,))),
            (HALVES, ((1, 1, 1), (1, 0, 0), (0,))): ((1, 1, 1), ((0, 0, 0), (0, 0, 0), (1,))),
            (WALK, moment(WALK, (0, 1, 0))): ((1, 1, 0), ((1, 1, 0), (0, 0, 0), (1, 0))),
            # The marble goes from wheel 1 to 0, 1, 2, 1, 0 and into the cup.
            (WALK, ((1, 0, 0), (0, 1, 0), (0, 0))): ((2, 3, 1), ((1, 1, 1), (0, 0, 0), (1, 0))),
            (LEAST, all_waiting(LEAST, 5)): ((5,), ((0,), (0,), ())),
        }
        for (board, now), (counts, last) in told.items():
            self.assertEqual(end_of(board, now), ("rests", counts, last))
            self.rests_so(board, now)

    def test_hundreds_at_a_wheel(self):
        for board in (LEAST, TURNS, HALVES, WALK):
            for wheel in range(len(board[0])):
                self.rests_so(board, moment(board, tuple(700 * (at == wheel) for at in range(len(board[0])))))
            self.rests_so(board, all_waiting(board, 1000))
        self.rests_so(STANDS_576, ((3, 2, 1, 2, 0), (0, 400, 0, 0, 300), (1, 2, 3)))
        self.rests_so(CLIMB, moment(CLIMB, (40, 0, 0, 0, 0, 0)))

    def test_great_counts(self):
        # Each of five wheels trebles; of 243,000 that come to the last one each fourth comes to it once more.
        board = (tuple(((wheel + 1,) * 3,) for wheel in range(5)) + (((5,), (), (6,), ()),), 1)
        now = moment(board, (1000, 0, 0, 0, 0, 0))
        counts = (1000, 3000, 9000, 27000, 81000, 324000)
        last = ((0,) * 6, (0,) * 6, (81000,))
        self.assertEqual(end_of(board, now), ("rests", counts, last))
        self.yes(is_end(board, now, ("rests", counts, last)))
        self.no(is_end(board, now, ("rests", counts[:5] + (323999,), last)))

    def test_never(self):
        for board, now in NEVERS:
            self.never_so(board, now)

    def test_rests_on_boards_that_keep(self):
        for board, now in RESTS_WHERE_KEPT:
            self.rests_so(board, now)

    def test_boards_by_chance(self):
        rng = random.Random(30)
        kinds = {"rests": 0, "never": 0}
        for board in some_boards(3, 60):
            for most in (1, 3, 12):
                now = some_moment(rng, board, most)
                kind = end_of(board, now)[0]
                kinds[kind] += 1
                if kind == "rests":
                    self.rests_so(board, now)
                else:
                    self.never_so(board, now)
        self.assertGreater(min(kinds.values()), 200)

    def test_whatever_was_told_may_be_handed_in(self):
        for board, now in NEVERS:
            word, ahead, again = end_of(board, now)
            for last in (behind(board, now, ahead), behind(board, now, ahead + again * 3)):
                self.never_so(board, last)
        much = ((0,), (10 ** 40,), ())
        self.assertEqual(end_of(LEAST, much), ("rests", (10 ** 40,), ((0,), (0,), ())))
        self.never_so(DOUBLER, much)
        self.never_so(MOST, all_waiting(MOST, 10 ** 30))

    def test_from_each_moment_on_the_way_it_is_one(self):
        for board, now in RESTS:
            word, counts, last = end_of(board, now)
            done = [0] * len(counts)
            for again in range(min(sum(counts), 200)):
                ready = [wheel for wheel, many in enumerate(now[1]) if many > 0]
                wheel = ready[again % len(ready)]
                now = handled(board, now, wheel)
                done[wheel] += 1
                left = tuple(all_of - gone for all_of, gone in zip(counts, done))
                self.assertEqual(end_of(board, now), ("rests", left, last))


class IsEndTest(Told):
    def test_rests_with_a_number_otherwise(self):
        for board, now in RESTS:
            told = end_of(board, now)
            for path in number_paths(told[1:]):
                part = part_at(told[1:], path)
                for wrong in (part + 1, part - 1, part + 10 ** 12, -part - 1, bool(part), None, str(part), (part,)):
                    self.no(is_end(board, now, ("rests",) + with_part(told[1:], path, wrong)), (told, path, wrong))

    def test_rests_with_a_tuple_otherwise(self):
        now = moment(TURNS, (3, 1, 0))
        told = end_of(TURNS, now)
        for path in tuple_paths(told):
            part = part_at(told, path)
            wrongs = (list(part), part[1:], part[:-1], part + part[-1:], part[::-1], (), None, 0, "", (part,), part * 2)
            for wrong in wrongs:
                if wrong != part:
                    self.no(is_end(TURNS, now, with_part(told, path, wrong)), (path, wrong))

    def test_truths_are_no_numbers(self):
        now = moment(HALVES, (2, 0, 0))
        told = ("rests", (2, 1, 0), ((0, 1, 0), (0, 0, 0), (0,)))
        self.assertEqual(end_of(HALVES, now), told)
        self.yes(is_end(HALVES, now, told))
        for path in number_paths(told[1:]):
            part = part_at(told[1:], path)
            if part < 2:
                self.no(is_end(HALVES, now, ("rests",) + with_part(told[1:], path, bool(part))))
        self.no(is_end(ROUND, moment(ROUND, (1,)), ("never", (), (False,))))
        self.no(is_end(ROUND, moment(ROUND, (1,)), ("never", (False,), (0,))))
        self.no(is_end(RING, moment(RING, (1, 0)), ("never", (0,), (True, 0))))

    def test_the_end_of_another_moment(self):
        ends = [(board, now, end_of(board, now)) for board, now in NEVERS + RESTS_WHERE_KEPT]
        for board, now, told in ends:
            for other, then, end in ends:
                if end[0] == "rests" and (other, then) != (board, now):
                    self.assertIs(is_end(board, now, end), end == told)
        now = moment(WALK, (5, 0, 0))
        self.no(is_end(WALK, now, end_of(WALK, moment(WALK, (4, 0, 0)))))
        self.no(is_end(WALK, now, end_of(WALK, ((0, 0, 0), (5, 0, 0), (1, 0)))))

    def test_a_moment_that_does_not_rest_yet(self):
        now = moment(WALK, (2, 0, 1))
        for row in ((), (0,), (0, 0), (2, 0)):
            self.no(is_end(WALK, now, ("rests", counts_of(WALK, row), behind(WALK, now, row))))

    def test_the_other_word(self):
        for board, now in NEVERS + RESTS_WHERE_KEPT + ((TURNS, moment(TURNS, (3, 1, 0))),):
            word, one, other = end_of(board, now)
            self.yes(is_end(board, now, (word, one, other)))
            turned = "never" if word == "rests" else "rests"
            for wrong in (turned, "", "Rests", "rest", word + " ", [word], (word,), None, True, 0, word[::-1]):
                self.no(is_end(board, now, (wrong, one, other)))

    def test_one_kind_alone(self):
        for board, now in NEVERS:
            for counts, last in (((0,) * len(board[0]), now), (now[1], (now[0], (0,) * len(board[0]), now[2]))):
                self.no(is_end(board, now, ("rests", counts, last)))
        for board, now in RESTS_WHERE_KEPT + ((LEAST, all_waiting(LEAST, 2)), (RING, all_waiting(RING, 0))):
            rows = [row for long in range(4) for row in itertools.product(range(len(board[0])), repeat=long)]
            for ahead, again in itertools.product(rows[:30], rows[:30]):
                self.no(is_end(board, now, ("never", ahead, again)))

    def test_never_with_rows_otherwise(self):
        answers = {True: 0, False: 0}
        for board, now in NEVERS:
            word, ahead, again = end_of(board, now)
            rows = [(other, again) for other in other_rows(len(board[0]), ahead)]
            rows += [(ahead, other) for other in other_rows(len(board[0]), again)]
            for one, other in rows:
                answer = is_end(board, now, ("never", one, other))
                self.assertIs(answer, shown_never(board, now, one, other), (board, now, one, other))
                answers[answer] += 1
        self.assertGreater(min(answers.values()), 50)

    def test_short_rows_against_the_words(self):
        answers = {True: 0, False: 0}
        for board, now in ((RING, ((0, 0), (1, 1), ())), (EVER, moment(EVER, (2, 0))), (TREBLER, ((1,), (1,), (0,)))):
            rows = [row for long in range(5) for row in itertools.product(range(len(board[0])), repeat=long)]
            for ahead, again in itertools.product(rows, rows):
                answer = is_end(board, now, ("never", ahead, again))
                self.assertIs(answer, shown_never(board, now, ahead, again), (board, now, ahead, again))
                answers[answer] += 1
        self.assertGreater(min(answers.values()), 50)

    def test_the_round_twice_and_none(self):
        for board, now in NEVERS:
            word, ahead, again = end_of(board, now)
            self.yes(is_end(board, now, (word, ahead, again + again)))
            self.yes(is_end(board, now, (word, ahead + again, again)))
            self.no(is_end(board, now, (word, ahead, ())))
            self.no(is_end(board, now, (word, (), ())))

    def test_a_round_behind_which_fewer_wait(self):
        board = ((((), (), (0,)),), 0)
        self.no(is_end(board, moment(board, (9,)), ("never", (), (0, 0, 0))))
        # Two wheels: at the one more wait, at the other fewer.
        board = ((((0, 0),), ((0,),)), 0)
        self.no(is_end(board, moment(board, (1, 1)), ("never", (), (0, 1))))
        self.yes(is_end(board, moment(board, (1, 1)), ("never", (1,), (0,))))

    def test_a_round_behind_which_the_stand_is_another(self):
        board = ((((0,), (0,)),), 0)
        for stand in ((0,), (1,)):
            now = (stand, (1,), ())
            self.no(is_end(board, now, ("never", (), (0,))))
            self.no(is_end(board, now, ("never", (0,), (0, 0, 0))))
            self.yes(is_end(board, now, ("never", (), (0, 0))))
            self.yes(is_end(board, now, ("never", (0,), (0, 0))))

    def test_never_with_parts_of_another_kind(self):
        now = moment(RING, (1, 0))
        self.yes(is_end(RING, now, ("never", (0,), (1, 0))))
        for ahead in ANYTHING:
            if ahead != ():
                self.no(is_end(RING, now, ("never", ahead, (0, 1))), ahead)
        for again in ANYTHING:
            self.no(is_end(RING, now, ("never", (), again)), again)
        for row in ([0, 1], (0, "1"), (0, (1,)), (0, None), (0, -1), (0, 2), {0: 0, 1: 1}, "01"):
            self.no(is_end(RING, now, ("never", (), row)), row)
            self.no(is_end(RING, now, ("never", row, (0, 1))), row)

    def test_too_few_and_too_many_parts(self):
        for board, now in NEVERS[:4] + RESTS_WHERE_KEPT:
            told = end_of(board, now)
            short_and_long = (told[:2], told[1:], told[:1], (), told + ((),), told + told[2:])
            for thing in short_and_long + (list(told), (told,), told[::-1]):
                self.no(is_end(board, now, thing))

    def test_anything(self):
        for board, now in NEVERS + RESTS_WHERE_KEPT + ((LEAST, all_waiting(LEAST, 0)),):
            for thing in ANYTHING:
                self.no(is_end(board, now, thing), thing)

    def test_long_rows(self):
        now = moment(EVER, (1, 0))
        row = (0, 1) * 30000
        self.yes(is_end(EVER, now, ("never", row, row)))
        self.no(is_end(EVER, now, ("never", row, row + (0, 1))))
        self.no(is_end(EVER, now, ("never", row + (1,), row)))


def come_by_counts(board, stand, counts):
    """How many marbles come to each wheel when all are turned so often: each step so often as it is come to."""
    coming = [0] * len(board[0])
    for steps, first, count in zip(board[0], stand, counts):
        for place, step in enumerate(steps):
            times = (count + len(steps) - 1 - (place - first) % len(steps)) // len(steps)
            for end in step:
                if end < len(coming):
                    coming[end] += times
    return coming


def enough(board, now, counts):
    """Whether the counts are enough, by the words of [31]."""
    coming = come_by_counts(board, now[0], counts)
    return all(wait + come <= count for wait, come, count in zip(now[1], coming, counts))


class EnoughTest(Told):
    starts = (
        (LEAST, all_waiting(LEAST, 3)), (TURNS, ((1, 0, 2), (3, 1, 0), (0, 0, 0))), (HALVES, moment(HALVES, (6, 2, 1))),
        (WALK, ((1, 0, 1), (1, 2, 0), (0, 1))), (TREBLER, ((2,), (2,), (0,))), (ROUND, all_waiting(ROUND, 0)),
    )

    def test_the_told_counts(self):
        for board, now in self.starts + RESTS_WHERE_KEPT:
            counts = end_of(board, now)[1]
            self.yes(is_enough(board, now, counts))
            for place, count in enumerate(counts):
                if count > 0:
                    self.no(is_enough(board, now, with_part(counts, (place,), count - 1)), (counts, place))
                more = with_part(counts, (place,), count + 1)
                self.assertIs(is_enough(board, now, more), enough(board, now, more))

    def test_one_more_may_be_enough_or_not(self):
        now = moment(HALVES, (2, 0, 0))
        self.yes(is_enough(HALVES, now, (2, 1, 0)))
        self.yes(is_enough(HALVES, now, (3, 1, 0)))
        self.no(is_enough(HALVES, now, (4, 1, 0)))
        self.yes(is_enough(HALVES, now, (4, 2, 1)))

    def test_all_counts_in_a_box(self):
        answers = {True: 0, False: 0}
        for board, now in self.starts + ((RING, moment(RING, (1, 0))), (TREBLER, ((1,), (1,), (0,)))):
            for counts in itertools.product(range(11), repeat=len(board[0])):
                answer = is_enough(board, now, counts)
                self.assertIs(answer, enough(board, now, counts), (board, now, counts))
                answers[answer] += 1
        self.assertGreater(min(answers.values()), 100)

    def test_the_told_counts_are_the_least(self):
        for board, now in self.starts:
            told = end_of(board, now)[1]
            for counts in itertools.product(range(9), repeat=len(board[0])):
                if is_enough(board, now, counts):
                    self.assertTrue(all(least <= count for least, count in zip(told, counts)), (told, counts))

    def test_where_no_rest_is_none_are_enough(self):
        for board, now in NEVERS:
            many = len(board[0])
            for counts in ((0,) * many, (1,) * many, (7,) * many, (1000,) * many, (10 ** 12,) * many):
                self.no(is_enough(board, now, counts))
        for board, now in ((RING, moment(RING, (1, 0))), (EVER, moment(EVER, (1, 0)))):
            for counts in itertools.product(range(30), repeat=2):
                self.no(is_enough(board, now, counts))

    def test_noughts(self):
        for board in BOARDS + DRAINING:
            noughts = (0,) * len(board[0])
            self.yes(is_enough(board, all_waiting(board, 0), noughts))
            for wheel in range(len(noughts)):
                self.no(is_enough(board, moment(board, with_part(noughts, (wheel,), 1)), noughts))

    def test_great_counts(self):
        self.yes(is_enough(LEAST, all_waiting(LEAST, 1000), (10 ** 12,)))
        self.yes(is_enough(LEAST, ((0,), (10 ** 12,), ()), (10 ** 12,)))
        self.no(is_enough(LEAST, ((0,), (10 ** 12 + 1,), ()), (10 ** 12,)))
        self.yes(is_enough(HALVES, moment(HALVES, (1000, 0, 0)), (10 ** 12, 10 ** 12 // 2, 10 ** 12 // 4)))
        self.no(is_enough(HALVES, moment(HALVES, (1000, 0, 0)), (10 ** 12, 10 ** 12 // 2 - 1, 10 ** 12 // 4)))
        self.no(is_enough(HALVES, moment(HALVES, (1000, 1, 0)), (10 ** 12, 10 ** 12 // 2, 10 ** 12 // 4)))
        # What came to rest may be handed in whatever its size.
        self.yes(is_enough(HALVES, ((0, 0, 0), (4 ** 50, 0, 0), (0,)), (4 ** 50, 4 ** 50 // 2, 4 ** 49)))

    def test_counts_by_chance(self):
        rng = random.Random(31)
        answers = {True: 0, False: 0}
        for board in some_boards(7, 25):
            now = some_moment(rng, board, 9)
            for most in (3, 40, 10 ** 12):
                counts = tuple(rng.randint(0, most) for wheel in board[0])
                tries = [counts, (most,) * len(counts)]
                kind, told, last = end_of(board, now)
                if kind == "rests":
                    tries += [told, tuple(count + 4 for count in told), tuple(max(0, count - 1) for count in told)]
                for one in tries:
                    answer = is_enough(board, now, one)
                    self.assertIs(answer, enough(board, now, one), (board, now, one))
                    answers[answer] += 1
        self.assertGreater(min(answers.values()), 100)

    def test_things_that_are_no_counts(self):
        now = moment(HALVES, (0, 0, 0))
        wrongs = (
            [0, 0, 0], (0, 0), (0, 0, 0, 0), (), (-1, 0, 0), (0, 0, -1), (False, 0, 0), (9, True, 0), (9, None, 9),
            (9, "9", 9), (9, (9,), 9), ((9, 9, 9),), (9, 9, [9]), "999", 9, None, {0: 9, 1: 9, 2: 9},
        )
        for thing in wrongs:
            self.no(is_enough(HALVES, now, thing), thing)
        for thing in ANYTHING:
            self.no(is_enough(HALVES, now, thing), thing)

    def test_numbers_below_nought_are_never_enough(self):
        for board in BOARDS:
            for wheel in range(len(board[0])):
                counts = with_part((5,) * len(board[0]), (wheel,), -1)
                self.no(is_enough(board, all_waiting(board, 0), counts))


class LongTest(Told):
    """Boards on which many are handled until all rest or until it is seen that they never do."""

    def test_each_end_shows_itself(self):
        rng = random.Random(5)
        for again in range(150):
            board = some_board(rng, 6, rng.randint(0, 2), (1, 1, 1, 1, 2, 0))
            for now in (all_waiting(board, 1000), some_moment(rng, board, 1)):
                told = end_of(board, now)
                self.yes(is_end(board, now, told), (board, now))
                self.yes(is_moment(board, told[2]) if told[0] == "rests" else is_let(board, now, told[1]))
                self.assertIs(is_enough(board, now, told[1]), told[0] == "rests")


if __name__ == "__main__":
    unittest.main()
