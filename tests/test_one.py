"""[5] and the words in brackets, over the whole program: by whichever way it is reckoned, it is one."""

import random
import unittest
from fractions import Fraction

from marblefall.desk import Desk
from marblefall.drains import drain_of, is_drain, never_moment
from marblefall.hands import beats, rows_of
from marblefall.joins import joined
from marblefall.moments import behind, counts_of, first_wrong, is_let
from marblefall.rest import end_of, is_end, is_enough
from marblefall.shares import owed, shares
from marblefall.stands import dropped, led_far
from marblefall.tellers import told
from marblefall.texts import board_text
from marblefall.works import Works
from tests.things import (
    BOARDS, CLIMB, DRAINING, KEEPING, NEVERS, Told, added, moment, row_of, some_boards, some_moment, with_part,
)

SOME = BOARDS + DRAINING + KEEPING + tuple(some_boards(140, 12))
DRAINS = tuple(board for board in SOME if drain_of(board)[0] == "drains")


def starts(seed, boards, most):
    """For each board a moment by chance, nothing held."""
    rng = random.Random(seed)
    for board in boards:
        yield board, (*some_moment(rng, board, most)[:2], (0,) * board[1])


def works_at(board, now):
    """Works at the moment, at which nothing is held."""
    works = Works(board, now[0])
    for wheel, many in enumerate(now[1]):
        while many > 0:
            works.lay(wheel, min(many, 100))
            many -= 100
    return works


def desk_at(board, waiting):
    """A desk with works of the board at the stand of noughts, so many waiting."""
    desk = Desk()
    desk.say("board " + " / ".join(board_text(board).split("\n")[:-1]))
    for wheel, many in enumerate(waiting):
        if many > 0:
            desk.say(f"lay {wheel} {many}")
    return desk


def numbers(text):
    return () if text == "none" else tuple(int(number) for number in text.split(" "))


class OneEndTest(Told):
    def test_by_rows_and_by_hands(self):
        whole = 0
        for board, now in starts(141, SOME, 12):
            end = end_of(board, now)
            for hands in range(1, 7):
                rows = rows_of(board, now, 500, hands=hands)
                row = sum(rows, ())
                self.yes(is_let(board, now, row))
                self.assertIs(first_wrong(board, now, row), None)
                many = beats(board, now, hands=hands)
                self.assertEqual(many is None, end[0] == "never")
                if many is not None and many <= 500:
                    whole += 1
                    self.assertEqual(end, ("rests", counts_of(board, row), behind(board, now, row)))
                else:
                    # On from there it is the same end.
                    then = end_of(board, behind(board, now, row))
                    self.assertEqual(then[0], end[0])
                    if end[0] == "rests":
                        self.assertEqual(end[1:], (added(counts_of(board, row), then[1]), then[2]))
        self.assertGreater(whole, 200)

    def test_by_works(self):
        rng = random.Random(142)
        for board, now in starts(143, SOME, 130):
            works = works_at(board, now)
            self.assertEqual(works.moment(), now)
            end = end_of(board, now)
            for again in range(rng.randrange(20)):
                ready = [wheel for wheel, many in enumerate(works.moment()[1]) if many > 0]
                if ready:
                    works.handle(rng.choice(ready))
            self.assertEqual(works.end()[0], end[0])
            if end[0] == "rests":
                self.assertEqual(added(works.counts(), works.end()[1]), end[1])
                works.settle()
                self.assertEqual((works.counts(), works.moment()), end[1:])
            else:
                word, ahead, again = works.end()
                for wheel in ahead[:400]:
                    works.handle(wheel)
                self.assertEqual(works.end()[0], "never")

    def test_by_a_desk(self):
        for board, now in starts(144, SOME, 60):
            now = moment(board, now[1])
            desk = desk_at(board, now[1])
            end = end_of(board, now)
            if end[0] == "never":
                self.assertEqual(desk.say("end"), "never")
                continue
            answer = desk.say("end")
            self.assertTrue(answer.startswith("rests "))
            self.assertEqual(numbers(answer.removeprefix("rests ")), end[1])
            self.assertEqual(numbers(desk.say("settle")), end[1])
            last = tuple(numbers(desk.say(word)) for word in ("stand", "waiting", "held"))
            self.assertEqual(last, end[2])

    def test_by_drops_and_words(self):
        rng = random.Random(145)
        for board in DRAINS:
            stand = tuple(rng.randrange(len(steps)) for steps in board[0])
            drops = tuple(rng.randint(0, 4) for wheel in stand)
            word, counts, last = end_of(board, (stand, drops, (0,) * board[1]))
            self.assertEqual(dropped(board, stand, drops), (last[0], counts, last[2]))
            cups, now = (0,) * board[1], stand
            for wheel, many in enumerate(drops):
                for gains in told((board, now, (wheel,)), (0,) * many):
                    cups = added(cups, gains)
                now = led_far(board, now, wheel, many)[0]
            self.assertEqual((now, cups), (last[0], last[2]))
            works = Works(board, stand)
            for wheel in row_of(drops)[::-1]:
                works.lay(wheel, 1)
                works.settle()
            self.assertEqual((works.counts(), works.moment()), (counts, last))

    def test_by_boards_joined(self):
        rng = random.Random(146)
        seen = 0
        small = [board for board in DRAINS if len(board[0]) <= 3]
        for one in small:
            for other in rng.sample(small, 4):
                links = tuple(rng.randrange(len(other[0])) for cup in range(one[1]))
                seen += 1
                board = joined(one, other, links)
                laid = tuple(rng.randint(0, 40) for wheel in one[0])
                works = works_at(board, moment(board, laid + (0,) * len(other[0])))
                first = works_at(one, moment(one, laid))
                first.settle()
                second = Works(other, (0,) * len(other[0]))
                for link, many in zip(links, first.moment()[2]):
                    for again in range(many):
                        second.lay(link, 1)
                second.settle()
                counts = works.settle()
                self.assertEqual(counts, first.counts() + second.counts())
                self.assertEqual(works.moment()[0], first.moment()[0] + second.moment()[0])
                self.assertEqual(works.moment()[2], second.moment()[2])
                desk = desk_at(board, laid)
                self.assertEqual(numbers(desk.say("settle")), counts)
        self.assertGreater(seen, 30)

    def test_the_told_counts_are_the_least_that_are_enough(self):
        for board, now in starts(147, SOME, 9):
            end = end_of(board, now)
            if end[0] == "rests":
                self.yes(is_enough(board, now, end[1]))
                for wheel, count in enumerate(end[1]):
                    if count > 0:
                        self.no(is_enough(board, now, with_part(end[1], (wheel,), count - 1)))

    def test_never_by_every_way(self):
        for board, now in NEVERS:
            self.assertIs(beats(board, now, hands=3), None)
            self.assertEqual(len(rows_of(board, now, 500, hands=2)), 500)
            works = works_at(board, (now[0], now[1], (0,) * board[1]))
            self.assertEqual(works.end()[0], "never")
            word, ahead, again = end_of(board, now)
            self.yes(is_let(board, now, ahead + again * 3))

    def test_boards_that_keep(self):
        for board in SOME:
            answer = drain_of(board)
            self.yes(is_drain(board, answer))
            if answer[0] == "keeps":
                now = never_moment(board)
                self.yes(is_end(board, now, end_of(board, now)))
                self.assertIs(beats(board, now), None)
                self.assertEqual(desk_at(board, (0,) * len(board[0])).say("drains"), "no")


class SharesTest(Told):
    def in_all(self, board, now):
        """Cup by cup held, owed and the shares of what waits, together."""
        stand, waiting, held = now
        of_wheels = shares(board)
        return tuple(
            held[cup] + Fraction(*owing) + sum(many * Fraction(*line[cup]) for many, line in zip(waiting, of_wheels))
            for cup, owing in enumerate(owed(board, stand))
        )

    def test_the_same_at_each_moment_of_works(self):
        rng = random.Random(148)
        for board, now in starts(149, DRAINS, 20):
            works = works_at(board, now)
            first = self.in_all(board, works.moment())
            for again in range(15):
                ready = [wheel for wheel, many in enumerate(works.moment()[1]) if many > 0]
                if ready:
                    works.handle(rng.choice(ready))
                    self.assertEqual(self.in_all(board, works.moment()), first)
            works.settle()
            self.assertEqual(self.in_all(board, works.moment()), first)
            # A marble laid brings just its shares.
            works.lay(0, 7)
            more = tuple(one + 7 * Fraction(*share) for one, share in zip(first, shares(board)[0]))
            self.assertEqual(self.in_all(board, works.moment()), more)
            works.undo()
            self.assertEqual(self.in_all(board, works.moment()), first)

    def test_the_same_beat_by_beat(self):
        for board, now in starts(150, DRAINS, 20):
            first = self.in_all(board, now)
            for row in rows_of(board, now, 12, hands=3):
                now = behind(board, now, row)
                self.assertEqual(self.in_all(board, now), first)

    def test_at_a_desk(self):
        for board in DRAINS:
            if board == CLIMB:
                continue
            desk = desk_at(board, (0,) * len(board[0]))
            for wheel, line in enumerate(shares(board)):
                answer = desk.say(f"shares {wheel}")
                told_so = () if answer == "none" else tuple(Fraction(text) for text in answer.split(" "))
                self.assertEqual(told_so, tuple(Fraction(*share) for share in line))


if __name__ == "__main__":
    unittest.main()
