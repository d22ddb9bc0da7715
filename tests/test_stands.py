"""[50] drops, [51] stands that come again, [52] rounds of drops, [53] least drops."""

import itertools
import random
import unittest

from marblefall.errors import NoAgain, NoDrops, NoNumber, TooMany
from marblefall.moments import handled
from marblefall.stands import (
    all_again, back, dropped, how_many, is_again, least_drops, led_far, round_of, shows_drops,
)
from tests.things import (
    ANYTHING, CLIMB, DRAINING, HALVES, LEAST, STANDS_576, STANDS_648, TURNS, WALK, Told, added, all_stands,
    comes_again, drops_in_row, moment, one_by_one, one_drop, one_number, reached, row_of, some_boards, with_part,
)

# Two wheels that hold marbles and let them go together, one of them to itself as well.
HOLD = ((((), (1, 1)), ((0,), (), (2, 2))), 1)

# A wheel that is its own end at first, and one that sends three marbles back: few of the stands come again.
FEW = ((((0,), (2,), ()), ((0, 0), (), (3,), (1,))), 2)

SMALL = (LEAST, HOLD, FEW, WALK, TURNS, HALVES) + tuple(some_boards(50, 6, "drains", most_wheels=4, most_stands=48))


def numbers_to(most, board):
    """All tuples with, for each wheel of the board, a number from 0 to the most."""
    return itertools.product(range(most + 1), repeat=len(board[0]))


def sample(things, most):
    """So many of the things, from the first one to the last one."""
    things = list(things)
    return things[::max(1, len(things) // most)]


class DroppedTest(Told):
    boards = SMALL + (STANDS_576, STANDS_648, CLIMB)

    def by_handled(self, board, stand, drops, pick):
        counts, last = one_by_one(board, moment(board, drops, stand), pick)
        return last[0], counts, last[2]

    def test_told_by_hand(self):
        self.assertEqual(dropped(LEAST, (0,), (7,)), ((0,), (7,), ()))
        self.assertEqual(dropped(WALK, (0, 0, 0), (0, 1, 0)), ((1, 1, 0), (1, 1, 0), (1, 0)))
        self.assertEqual(dropped(WALK, (1, 0, 0), (0, 1, 0)), ((1, 1, 1), (2, 3, 1), (1, 0)))
        self.assertEqual(dropped(HALVES, (0, 0, 0), (20, 0, 0)), ((0, 0, 1), (20, 10, 5), (2,)))
        self.assertEqual(dropped(HALVES, (1, 1, 1), (1, 1, 1)), ((0, 1, 1), (1, 2, 2), (1,)))

    def test_none(self):
        for board in self.boards:
            for stand in sample(all_stands(board), 20):
                noughts = (0,) * len(stand)
                self.assertEqual(dropped(board, stand, noughts), (stand, noughts, (0,) * board[1]))

    def test_one(self):
        for board in self.boards:
            for stand in sample(all_stands(board), 20):
                for wheel in range(len(stand)):
                    drops = with_part((0,) * len(stand), (wheel,), 1)
                    told = dropped(board, stand, drops)
                    self.assertEqual(told, self.by_handled(board, stand, drops, max))
                    self.assertEqual((told[0], told[2]), one_drop(board, stand, wheel))

    def test_twenty_at_each_wheel(self):
        for board in SMALL + (STANDS_576,):
            for stand in sample(all_stands(board), 3):
                drops = (20,) * len(stand)
                told = dropped(board, stand, drops)
                for pick in (min, max):
                    self.assertEqual(told, self.by_handled(board, stand, drops, pick))

    def test_in_two_parts(self):
        rng = random.Random(51)
        for board in self.boards:
            for stand in sample(all_stands(board), 10):
                one = tuple(rng.randint(0, 10) for wheel in stand)
                other = tuple(rng.randint(0, 10) for wheel in stand)
                first = dropped(board, stand, one)
                second = dropped(board, first[0], other)
                last, counts, cups = dropped(board, stand, added(one, other))
                self.assertEqual(last, second[0])
                self.assertEqual(counts, added(first[1], second[1]))
                self.assertEqual(cups, added(first[2], second[2]))

    def test_one_by_one_in_several_orders(self):
        rng = random.Random(52)
        for board in self.boards:
            for stand in sample(all_stands(board), 4):
                drops = tuple(rng.randint(0, 3) for wheel in stand)
                told = dropped(board, stand, drops)
                row = list(row_of(drops))
                for again in range(4):
                    now, counts, cups = stand, (0,) * len(stand), (0,) * board[1]
                    for wheel in row:
                        now, more, gains = dropped(board, now, with_part((0,) * len(stand), (wheel,), 1))
                        counts, cups = added(counts, more), added(cups, gains)
                    self.assertEqual((now, counts, cups), told)
                    rng.shuffle(row)

    def test_no_drops(self):
        bad = (
            (21, 0, 0), (0, 0, 21), (20, 20, 22), (-1, 0, 0), (0, -1, 0), (10 ** 12, 0, 0), (True, 0, 0), (0, 0, False),
            [0, 0, 0], [1, 2, 3], (0, 0), (), (0, 0, 0, 0), (1, None, 1), (1, "1", 1), (1, (1,), 1), (1, [1], 1), 0,
            None, "000", {0: 0, 1: 0}, ((0, 0, 0),),
        )
        for drops in bad + ANYTHING:
            self.assertRaises(NoDrops, dropped, WALK, (0, 0, 0), drops)
        for wheel in range(3):
            self.assertEqual(len(dropped(WALK, (0, 0, 0), with_part((0, 0, 0), (wheel,), 20))), 3)
            self.assertRaises(NoDrops, dropped, WALK, (0, 0, 0), with_part((0, 0, 0), (wheel,), 21))


class AgainTest(Told):
    def test_told_by_hand(self):
        # With wheels 0 and 1, or 1 and 2, at the steps that led marbles to each other last, drops don't lead back.
        self.assertEqual(all_again(WALK), ((0, 0, 0), (1, 0, 0), (1, 1, 0), (1, 1, 1)))
        self.assertEqual(all_again(LEAST), ((0,),))
        self.assertEqual(all_again(HALVES), tuple(itertools.product((0, 1), repeat=3)))

    def test_all_ways_gone_through(self):
        some = 0
        for board in SMALL:
            again = [stand for stand in all_stands(board) if comes_again(board, stand)]
            self.assertEqual(all_again(board), tuple(again), board)
            for stand in all_stands(board):
                self.assertIs(is_again(board, stand), stand in again, (board, stand))
            some += 0 < len(again) < len(all_stands(board))
        self.assertGreater(some, 5)

    def test_rising(self):
        for board in SMALL + (STANDS_576,):
            told = all_again(board)
            self.assertIs(type(told), tuple)
            self.assertTrue(all(one < other for one, other in zip(told, told[1:])))

    def test_how_many(self):
        for board in SMALL + (STANDS_576,):
            many = how_many(board)
            self.assertIs(type(many), int)
            self.assertEqual(many, len(all_again(board)), board)
            self.assertEqual(many, one_number(board), board)

    def test_how_many_of_more_than_600(self):
        for board in (STANDS_648, CLIMB) + tuple(some_boards(53, 10, "drains")):
            self.assertEqual(how_many(board), one_number(board), board)
        # From a stand that comes again just those that do are come to.
        now = (0,) * 6
        for again in range(700):
            now = drops_in_row(STANDS_648, now, range(6))[0]
        self.assertEqual(how_many(STANDS_648), len(reached(STANDS_648, now)))

    def test_576_stands(self):
        told = all_again(STANDS_576)
        self.assertEqual(len(told), 489)
        self.assertEqual(set(told), reached(STANDS_576, told[0]))
        others = [stand for stand in all_stands(STANDS_576) if stand not in told]
        self.assertEqual(len(others), 87)
        self.yes(is_again(STANDS_576, told[-1]))
        self.no(is_again(STANDS_576, others[0]))
        self.assertIn(back(STANDS_576, told[5], 4), told)

    def test_back(self):
        for board in SMALL:
            again = all_again(board)
            for stand, wheel in itertools.product(again, range(len(board[0]))):
                told = back(board, stand, wheel)
                leading = [one for one in again if one_drop(board, one, wheel)[0] == stand]
                self.assertEqual([told], leading, (board, stand, wheel))

    def test_back_of_one_that_does_not_come_again(self):
        some = 0
        for board in SMALL + (STANDS_576,):
            again = all_again(board)
            for stand in sample([stand for stand in all_stands(board) if stand not in again], 30):
                some += 1
                for wheel in range(len(stand)):
                    self.assertRaises(NoAgain, back, board, stand, wheel)
        self.assertGreater(some, 30)

    def test_too_many(self):
        boards = [(STANDS_648, 648), (CLIMB, 4096), (((((),) * 3,) * 6, 0), 729)]
        for board, many in boards:
            stand = (0,) * 6
            calls = (
                (is_again, stand), (all_again,), (back, stand, 0), (least_drops, stand, stand),
                (shows_drops, stand, stand, ("drops", stand)), (shows_drops, stand, stand, None),
            )
            for ask, *arguments in calls:
                with self.assertRaises(TooMany) as caught:
                    ask(board, *arguments)
                self.assertEqual((caught.exception.many, caught.exception.most), (many, 600))
            # These don't go through stands, or are not refused.
            self.assertEqual(how_many(board), one_number(board))
            self.assertEqual(dropped(board, stand, stand)[0], stand)
            self.assertEqual(led_far(board, stand, 0, 0), (stand, (0,) * board[1]))
            self.assertEqual(len(round_of(board, stand, 0)), 2)


def gone_round(board, stand, wheel):
    """(ahead, round) by drops gone through one by one."""
    path = [stand]
    while path.count(path[-1]) == 1:
        path.append(one_drop(board, path[-1], wheel)[0])
    ahead = path.index(path[-1])
    return ahead, len(path) - 1 - ahead


class RoundTest(Told):
    def test_told_by_hand(self):
        self.assertEqual(round_of(LEAST, (0,), 0), (0, 1))
        self.assertEqual(round_of(HALVES, (0, 0, 0), 0), (0, 8))
        self.assertEqual(round_of(HALVES, (1, 0, 1), 2), (0, 2))
        # The stand (0, 1, 0) doesn't come again: it is followed by (1, 1, 1) and (1, 0, 0) by turns.
        self.assertEqual(round_of(WALK, (0, 1, 0), 1), (1, 2))

    def test_drops_gone_through(self):
        ahead = 0
        for board in SMALL:
            for stand, wheel in itertools.product(all_stands(board), range(len(board[0]))):
                told = round_of(board, stand, wheel)
                self.assertEqual(told, gone_round(board, stand, wheel), (board, stand, wheel))
                ahead += told[0] > 0
        self.assertGreater(ahead, 30)

    def test_many_stands(self):
        for board in (STANDS_576, STANDS_648):
            for stand in sample(all_stands(board), 3):
                for wheel in (0, len(stand) - 1):
                    self.assertEqual(round_of(board, stand, wheel), gone_round(board, stand, wheel))

    def test_a_round_of_4096(self):
        # A number of six figures, each to four: the first wheel counts, each next one is turned by a whole turn.
        board = (tuple(((), (), (), (wheel + 1,)) for wheel in range(5)) + (((), (), (), (6,)),), 1)
        self.assertEqual(round_of(board, (0,) * 6, 0), (0, 4096))
        self.assertEqual(round_of(board, (3, 2, 1, 0, 0, 0), 4), (0, 16))
        self.assertEqual(led_far(board, (0,) * 6, 0, 4096 * 5 + 6), ((2, 1, 0, 0, 0, 0), (5,)))
        self.assertEqual(led_far(board, (0,) * 6, 0, 10 ** 12), ((0, 0, 0, 0, 0, 0), (244140625,)))

    def test_led_far(self):
        for board in SMALL:
            for stand in sample(all_stands(board), 8):
                for wheel in range(len(stand)):
                    ahead, long = round_of(board, stand, wheel)
                    path = [(stand, (0,) * board[1])]
                    for again in range(ahead + 3 * long + 2):
                        now, gains = one_drop(board, path[-1][0], wheel)
                        path.append((now, added(path[-1][1], gains)))
                    for many, last in enumerate(path):
                        self.assertEqual(led_far(board, stand, wheel, many), last, (board, stand, wheel, many))

    def test_led_as_far_as_is_let(self):
        for board in SMALL + (STANDS_576, STANDS_648):
            for stand in sample(all_stands(board), 4):
                for wheel in range(len(stand)):
                    ahead, long = round_of(board, stand, wheel)
                    rounds, more = divmod(10 ** 12 - ahead, long)
                    now, cups = led_far(board, stand, wheel, ahead + more)
                    each = [
                        after - before for before, after in zip(
                            led_far(board, stand, wheel, ahead)[1], led_far(board, stand, wheel, ahead + long)[1],
                        )
                    ]
                    cups = tuple(one + rounds * other for one, other in zip(cups, each))
                    self.assertEqual(led_far(board, stand, wheel, 10 ** 12), (now, cups))

    def test_led_in_two_parts(self):
        for one, other in ((0, 5), (999999999999, 1), (123456789, 987654321), (7, 10 ** 11)):
            now, cups = led_far(FEW, (1, 2), 1, one)
            last, gains = led_far(FEW, now, 1, other)
            self.assertEqual(led_far(FEW, (1, 2), 1, one + other), (last, added(cups, gains)))

    def test_no_number(self):
        for many in (-1, 10 ** 12 + 1, 9999999999999, True, False, None, "5", (5,), [5], {}, (), -9999999999999):
            self.assertRaises(NoNumber, led_far, WALK, (0, 0, 0), 1, many)


def by_sums(board, stand, other, most):
    """The least drops by a search: fewest together first, then the least tuple; None where none are up to the most."""
    for many in range(most + 1):
        for drops in numbers_to(many, board):
            if sum(drops) == many and drops_in_row(board, stand, row_of(drops))[0] == other:
                return drops
    return None


class LeastDropsTest(Told):
    def test_told_by_hand(self):
        self.assertEqual(least_drops(HALVES, (0, 0, 0), (1, 0, 0)), ("drops", (1, 0, 0)))
        self.assertEqual(least_drops(HALVES, (0, 0, 0), (0, 1, 0)), ("drops", (0, 1, 0)))
        self.assertEqual(least_drops(HALVES, (1, 0, 0), (0, 0, 0)), ("drops", (1, 1, 1)))
        self.assertEqual(least_drops(WALK, (0, 0, 0), (0, 1, 0)), ("closed", all_again(WALK)))

    def test_the_stand_itself(self):
        for board in SMALL:
            for stand in all_stands(board):
                self.assertEqual(least_drops(board, stand, stand), ("drops", (0,) * len(stand)))

    def test_a_search_by_sums(self):
        found = 0
        for board in [board for board in SMALL if len(all_stands(board)) <= 24]:
            stands = all_stands(board)
            for stand, other in itertools.product(sample(stands, 5), stands):
                word, told = least_drops(board, stand, other)
                self.assertEqual(word, "drops" if other in reached(board, stand) else "closed")
                if word == "drops" and sum(told) <= 8:
                    found += 1
                    self.assertEqual(told, by_sums(board, stand, other, sum(told)), (board, stand, other))
        self.assertGreater(found, 200)

    def test_of_as_few_the_least(self):
        # A drop at wheel 1 turns wheel 2, as one at wheel 2 does, which is the lesser tuple.
        board = ((((),), ((2,),), ((), ())), 0)
        self.assertEqual(least_drops(board, (0, 0, 0), (0, 0, 1)), ("drops", (0, 0, 1)))
        board = ((((1,),), ((2,),), ((), (), ())), 0)
        self.assertEqual(least_drops(board, (0, 0, 1), (0, 0, 0)), ("drops", (0, 0, 2)))

    def test_closed(self):
        closed = 0
        for board in SMALL + (STANDS_576,):
            stands = sample(all_stands(board), 12)
            for stand, other in itertools.product(stands, stands):
                told = least_drops(board, stand, other)
                if other not in reached(board, stand):
                    closed += 1
                    self.assertEqual(told, ("closed", tuple(sorted(reached(board, stand)))))
                self.yes(shows_drops(board, stand, other, told), (board, stand, other))
        self.assertGreater(closed, 50)


class ShowsDropsTest(Told):
    def test_all_drops_in_a_box(self):
        answers = {True: 0, False: 0}
        for board in (LEAST, HOLD, FEW, WALK):
            for stand in sample(all_stands(board), 6):
                lasts = {drops: drops_in_row(board, stand, row_of(drops))[0] for drops in numbers_to(5, board)}
                for other, drops in itertools.product(sample(all_stands(board), 5), lasts):
                    answer = shows_drops(board, stand, other, ("drops", drops))
                    self.assertIs(answer, lasts[drops] == other, (board, stand, other, drops))
                    answers[answer] += 1
        self.assertGreater(min(answers.values()), 200)

    def test_great_drops(self):
        for board in (HOLD, FEW, WALK, HALVES):
            for stand, wheel in itertools.product(all_stands(board), range(len(board[0]))):
                for many in (10 ** 12, 10 ** 12 - 1, 10 ** 11 + 7):
                    last = led_far(board, stand, wheel, many)[0]
                    drops = with_part((0,) * len(stand), (wheel,), many)
                    for other in sample(all_stands(board), 4) + [last]:
                        self.assertIs(shows_drops(board, stand, other, ("drops", drops)), other == last)
        # Beyond 10 ** 12 they are none, though they would lead there.
        self.yes(shows_drops(HALVES, (0, 0, 0), (0, 0, 0), ("drops", (10 ** 12, 0, 0))))
        self.no(shows_drops(HALVES, (0, 0, 0), (0, 0, 0), ("drops", (10 ** 12 + 8, 0, 0))))
        self.no(shows_drops(HALVES, (0, 0, 0), (0, 0, 0), ("drops", (0, 0, 10 ** 12 + 2))))
        self.yes(shows_drops(HALVES, (0, 0, 0), (0, 0, 0), ("drops", (10 ** 12,) * 3)))

    def test_things_that_are_no_drops(self):
        self.yes(shows_drops(HALVES, (0, 0, 0), (1, 0, 0), ("drops", (1, 0, 0))))
        self.yes(shows_drops(HALVES, (0, 0, 0), (1, 0, 0), ("drops", (9, 0, 0))))
        wrongs = (
            [1, 0, 0], (True, 0, 0), (1, False, 0), (1, 0), (1, 0, 0, 0), (-7, 0, 0), (1, -2, 0), (1, None, 0),
            (1, "0", 0), (1, (0,), 0), {0: 1, 1: 0, 2: 0}, ((1, 0, 0),), 1, "100", None, (),
        )
        for wrong in wrongs:
            self.no(shows_drops(HALVES, (0, 0, 0), (1, 0, 0), ("drops", wrong)), wrong)
        for wrong in ("closed", "drop", "", None, ["drops"], ("drops",), True):
            self.no(shows_drops(HALVES, (0, 0, 0), (1, 0, 0), (wrong, (1, 0, 0))), wrong)

    def test_parts(self):
        for stand, other in (((0, 0, 0), (1, 0, 0)), ((0, 0, 0), (0, 1, 0))):
            told = least_drops(WALK, stand, other)
            self.yes(shows_drops(WALK, stand, other, told))
            for thing in (told[:1], told[1:], told[::-1], told + ((),), told + told, list(told), (told,), told[1], ()):
                self.no(shows_drops(WALK, stand, other, thing), thing)

    def test_closed_tuples(self):
        again = all_again(WALK)
        stand, other = again[0], (0, 1, 0)
        lost = [one for one in all_stands(WALK) if one not in again and one != other]
        self.yes(shows_drops(WALK, stand, other, ("closed", again)))
        wrongs = [
            again[::-1], again[:-1], again[1:], again + again[-1:], again[:1] + again, (), list(again), (again,),
            (stand,), tuple(sorted(again + (other,))), again[1:2] + again[:1] + again[2:], tuple(all_stands(WALK)),
            tuple(list(one) for one in again), tuple(tuple(bool(step) for step in one) for one in again),
            dict.fromkeys(again), again + (None,), again + ((1, 1),), again + ((1, 1, 2),), again + ((1, 1, 1, 1),),
            "closed", None, 0,
        ]
        for wrong in wrongs:
            self.no(shows_drops(WALK, stand, other, ("closed", wrong)), wrong)
        self.no(shows_drops(WALK, stand, stand, ("closed", again)))
        self.no(shows_drops(WALK, stand, other, ("drops", again)))
        self.no(shows_drops(WALK, lost[0], other, ("closed", again)))

    def test_all_tuples_of_stands(self):
        answers = {True: 0, False: 0}
        for board in (WALK, ((((0, 1), (), ()), ((0,), ())), 0)):
            stands = all_stands(board)
            for some in [one for many in range(len(stands) + 1) for one in itertools.combinations(stands, many)]:
                kept = all(one_drop(board, one, wheel)[0] in some for one in some for wheel in range(len(one)))
                for stand, other in itertools.product(stands[::2], stands[1::2]):
                    answer = shows_drops(board, stand, other, ("closed", some))
                    self.assertIs(answer, kept and stand in some and other not in some, (board, stand, other, some))
                    answers[answer] += 1
        self.assertGreater(min(answers.values()), 10)

    def test_a_larger_closed_tuple(self):
        stand, other = (0, 0, 0), (0, 1, 0)
        again = set(all_again(WALK))
        larger = 0
        for one in all_stands(WALK):
            more = again | reached(WALK, one)
            if other not in more and more != again:
                larger += 1
                self.yes(shows_drops(WALK, stand, other, ("closed", tuple(sorted(more)))))
        self.assertGreater(larger, 0)

    def test_anything(self):
        for thing in ANYTHING:
            self.no(shows_drops(WALK, (0, 0, 0), (0, 1, 0), thing), thing)
            self.no(shows_drops(WALK, (0, 0, 0), (1, 1, 0), thing), thing)
            self.no(shows_drops(WALK, (0, 0, 0), (0, 1, 0), ("closed", thing)), thing)
            self.no(shows_drops(WALK, (0, 0, 0), (0, 0, 0), ("drops", thing)), thing)


class OneTest(Told):
    """[5]: marble by marble, at once, by rounds: it is one."""

    def test_all_together(self):
        for board in DRAINING:
            for wheel in range(len(board[0])):
                stand = tuple(len(steps) - 1 for steps in board[0])
                drops = with_part((0,) * len(stand), (wheel,), 20)
                last, counts, cups = dropped(board, stand, drops)
                self.assertEqual(led_far(board, stand, wheel, 20), (last, cups))
                now = moment(board, drops, stand)
                for again in range(200):
                    ready = [at for at, many in enumerate(now[1]) if many > 0]
                    if ready:
                        now = handled(board, now, ready[again % len(ready)])
                self.assertEqual(one_by_one(board, now, max)[1], (last, (0,) * len(stand), cups))


if __name__ == "__main__":
    unittest.main()
