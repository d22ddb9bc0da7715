"""[70] boards joined."""

import itertools
import random
import unittest

from marblefall.boards import is_board
from marblefall.drains import drain_of
from marblefall.errors import NoLinks, TooMany
from marblefall.joins import joined
from marblefall.rest import end_of
from tests.things import (
    ANYTHING, EVER, HALVES, LEAST, MIXED, ROUND, TURNS, WALK, Told, added, moment, some_boards, some_moment,
)

BOARDS = (LEAST, HALVES, WALK, TURNS, MIXED, EVER, ROUND) + tuple(some_boards(70, 8, most_wheels=4))


def plain(wheels, cups):
    """A board of so many wheels and cups; each wheel of one step without ends."""
    return ((((),),) * wheels, cups)


def all_links(one, other):
    """All links from the one board to the other."""
    return itertools.product((None,) + tuple(range(len(other[0]))), repeat=one[1])


def can_join(one, other, links):
    return len(one[0]) + len(other[0]) <= 6 and links.count(None) + other[1] <= 4


def some_joins(seed, many):
    """By chance, always the same, so many boards with others and links by which they can be joined."""
    rng = random.Random(seed)
    found = 0
    while found < many:
        one, other = rng.choice(BOARDS), rng.choice(BOARDS)
        links = tuple(rng.choice((None,) + tuple(range(len(other[0])))) for cup in range(one[1]))
        if can_join(one, other, links):
            found += 1
            yield one, other, links


def where(board, end):
    """What the end is: ("wheel", number) or ("cup", number)."""
    wheels = len(board[0])
    return ("wheel", end) if end < wheels else ("cup", end - wheels)


def meant(one, other, links, first, end):
    """What the end of the first board, or of the second one, is to be on the joined board."""
    kind, number = where(one if first else other, end)
    if kind == "wheel":
        return ("wheel", number if first else number + len(one[0]))
    kept = [cup for cup, link in enumerate(links) if link is None]
    if not first:
        return ("cup", len(kept) + number)
    if links[number] is None:
        return ("cup", kept.index(number))
    return ("wheel", len(one[0]) + links[number])


class JoinedTest(Told):
    def test_told_by_hand(self):
        # One wheel that sends marbles into its two cups by turns, and one that sends on each second one.
        fork = ((((1,), (2,)),), 2)
        half = ((((), (1,)),), 1)
        self.assertEqual(joined(fork, half, (None, None)), ((((2,), (3,)), ((), (4,))), 3))
        self.assertEqual(joined(fork, half, (0, None)), ((((1,), (2,)), ((), (3,))), 2))
        self.assertEqual(joined(fork, half, (None, 0)), ((((2,), (1,)), ((), (3,))), 2))
        self.assertEqual(joined(fork, half, (0, 0)), ((((1,), (1,)), ((), (2,))), 1))
        self.assertEqual(joined(half, fork, (0,)), ((((), (1,)), ((2,), (3,))), 2))
        self.assertEqual(joined(LEAST, LEAST, ()), ((((),), ((),)), 0))
        self.assertEqual(joined(ROUND, ROUND, ()), ((((0,),), ((1,),)), 0))
        self.assertEqual(
            joined(HALVES, WALK, (1,)),
            ((((), (1,)), ((), (2,)), ((), (4,)), ((6,), (4,)), ((3,), (5,)), ((4,), (7,))), 2),
        )

    def test_the_order_of_the_ends_is_kept(self):
        one = ((((3, 0, 2), (1, 1, 3)), ((2, 3, 2),)), 2)
        other = ((((2, 0, 1), (1, 2, 2)), ((0, 1),)), 1)
        self.assertEqual(
            joined(one, other, (1, None)),
            ((((4, 0, 3), (1, 1, 4)), ((3, 4, 3),), ((5, 2, 3), (3, 5, 5)), ((2, 3),)), 2),
        )

    def test_end_by_end(self):
        seen = 0
        for one, other in itertools.product(BOARDS, repeat=2):
            for links in list(all_links(one, other))[::7]:
                if not can_join(one, other, links):
                    continue
                seen += 1
                board = joined(one, other, links)
                self.yes(is_board(board), (one, other, links))
                self.assertEqual(len(board[0]), len(one[0]) + len(other[0]))
                self.assertEqual(board[1], links.count(None) + other[1])
                for at, steps in enumerate(board[0]):
                    first = at < len(one[0])
                    own = one[0][at] if first else other[0][at - len(one[0])]
                    self.assertEqual(
                        [[where(board, end) for end in step] for step in steps],
                        [[meant(one, other, links, first, end) for end in step] for step in own],
                        (one, other, links),
                    )
        self.assertGreater(seen, 500)

    def test_all_some_and_none_of_the_cups_linked(self):
        seen = set()
        for one, other, links in some_joins(71, 300):
            linked = len(links) - links.count(None)
            seen.add("none" if linked == 0 else "all" if linked == len(links) else "some")
        self.assertEqual(seen, {"all", "some", "none"})


class OneBehindTheOtherTest(Told):
    """What marbles laid on the first come to is what comes board by board."""

    def board_by_board(self, one, other, links, now, stand):
        """(counts, stand, held) when the first alone is brought to rest, then the second; None where one never is."""
        first = end_of(one, now)
        if first[0] == "never":
            return None
        gains = first[2][2]
        laid = [0] * len(other[0])
        for link, many in zip(links, gains):
            if link is not None:
                laid[link] += many
        second = end_of(other, (stand, tuple(laid), (0,) * other[1]))
        if second[0] == "never":
            return None
        kept = tuple(many for link, many in zip(links, gains) if link is None)
        return first[1] + second[1], first[2][0] + second[2][0], kept + second[2][2]

    def test_board_by_board(self):
        rng = random.Random(72)
        seen = {"rests": 0, "never": 0}
        moved = 0
        for one, other, links in some_joins(73, 600):
            now = (*some_moment(rng, one, 9)[:2], (0,) * one[1])
            stand = tuple(rng.randrange(len(steps)) for steps in other[0])
            board = joined(one, other, links)
            parts = self.board_by_board(one, other, links, now, stand)
            told = end_of(board, (now[0] + stand, now[1] + (0,) * len(stand), (0,) * board[1]))
            seen[told[0]] += 1
            if parts is None:
                self.assertEqual(told[0], "never", (one, other, links, now))
            else:
                counts, last, held = parts
                self.assertEqual(told, ("rests", counts, (last, (0,) * len(last), held)), (one, other, links, now))
                moved += any(counts[len(one[0]):])
        self.assertGreater(min(seen.values()), 50)
        self.assertGreater(moved, 100)

    def test_boards_that_drain_are_joined_to_one_that_drains(self):
        for one, other, links in some_joins(74, 200):
            both = {drain_of(one)[0], drain_of(other)[0]} == {"drains"}
            self.assertEqual(drain_of(joined(one, other, links))[0] == "drains", both)

    def test_three_joined(self):
        # However three are put together, it is one board.
        half = ((((), (1,)),), 1)
        fork = ((((1,), (2,)),), 2)
        left = joined(joined(half, half, (0,)), fork, (0,))
        right = joined(half, joined(half, fork, (0,)), (0,))
        self.assertEqual(left, right)
        self.assertEqual(end_of(left, moment(left, (8, 0, 0)))[1:], ((8, 4, 2), ((0, 0, 0), (0, 0, 0), (1, 1))))

    def test_held_are_added(self):
        board = joined(HALVES, WALK, (1,))
        told = end_of(board, ((0,) * 6, (8, 0, 0, 0, 3, 0), (5, 6)))
        first = end_of(board, ((0,) * 6, (8, 0, 0, 0, 3, 0), (0, 0)))
        self.assertEqual(told[2][2], added(first[2][2], (5, 6)))


class LinksTest(Told):
    def test_no_links(self):
        # TURNS has three cups, WALK three wheels.
        self.assertEqual(joined(TURNS, WALK, (0, 1, 2))[1], 2)
        wrongs = (
            (0, 1), (0, 1, 2, 0), (), (0,), (3, 1, 2), (0, 1, 3), (-1, 1, 2), (0, 1, -1), (True, 1, 2), (0, False, 2),
            [0, 1, 2], [None, None, None], (0, [1], 2), (0, (1,), 2), (0, "1", 2), (0, {}, 2), (0, "", None),
            ((0, 1, 2),), (None, None), (None,) * 4, {0: 0, 1: 1, 2: 2}, "012", (9999999999999, None, None),
        )
        for links in wrongs + tuple(thing for thing in ANYTHING if thing != (None, None, None)):
            self.assertRaises(NoLinks, joined, TURNS, WALK, links)

    def test_no_cups_no_links(self):
        for links in (None, 0, [], {}, "", (None,), (0,), ((),)):
            self.assertRaises(NoLinks, joined, LEAST, WALK, links)
        self.assertEqual(len(joined(LEAST, WALK, ())[0]), 4)

    def test_a_wheel_of_the_second_not_of_the_first(self):
        # Seven wheels are too many, but what is no link is refused first.
        self.assertRaises(NoLinks, joined, plain(5, 1), plain(1, 0), (1,))
        self.assertRaises(NoLinks, joined, plain(6, 1), plain(1, 0), (1,))
        self.assertEqual(joined(plain(1, 1), plain(5, 0), (4,)), plain(6, 0))
        self.assertRaises(NoLinks, joined, plain(1, 1), plain(5, 0), (5,))

    def refused(self, one, other, links):
        with self.assertRaises(TooMany) as caught:
            joined(one, other, links)
        return caught.exception.many, caught.exception.most

    def test_too_many_wheels(self):
        for one, other in itertools.product(range(1, 7), repeat=2):
            if one + other <= 6:
                self.assertEqual(joined(plain(one, 0), plain(other, 0), ()), plain(one + other, 0))
            else:
                self.assertEqual(self.refused(plain(one, 0), plain(other, 0), ()), (one + other, 6))

    def test_too_many_cups(self):
        for one, other in itertools.product(range(5), repeat=2):
            for links in itertools.product((None, 0), repeat=one):
                cups = links.count(None) + other
                if cups <= 4:
                    self.assertEqual(joined(plain(2, one), plain(1, other), links), plain(3, cups))
                else:
                    self.assertEqual(self.refused(plain(2, one), plain(1, other), links), (cups, 4))

    def test_wheels_ahead_of_cups(self):
        self.assertEqual(self.refused(plain(4, 3), plain(3, 2), (None,) * 3), (7, 6))
        self.assertEqual(self.refused(plain(6, 4), plain(6, 4), (None,) * 4), (12, 6))
        self.assertEqual(self.refused(plain(3, 3), plain(3, 2), (None,) * 3), (5, 4))
        self.assertEqual(joined(plain(3, 3), plain(3, 2), (None, 0, None)), plain(6, 4))


if __name__ == "__main__":
    unittest.main()
