"""[110] works."""

import copy
import inspect
import random
import unittest

from marblefall.errors import MarbleError, NoBoard, NoDeed, NoNumber, NoStand, NotNow, NoWheel
from marblefall.moments import handled
from marblefall.rest import end_of, is_end
from marblefall.works import Works
from tests.things import (
    ANYTHING, BOARDS, DRAINING, EVER, HALVES, KEEPING, LEAST, MIXED, RING, TREBLER, TURNS, WALK, Told, added,
    all_stands, moment, some_boards, with_part,
)

SOME = BOARDS + DRAINING + KEEPING + tuple(some_boards(110, 3))


def noughts(board):
    return (0,) * len(board[0])


def some_deed(rng, works):
    """A deed by chance: its name and what is handed to it, right or wrong."""
    wheel = rng.randrange(len(works.moment()[0]) + 1)
    return rng.choice((
        ("lay", wheel, rng.choice((1, 2, 5, 100))), ("lay", wheel, rng.choice((0, 101, True, -1))), ("handle", wheel),
        ("handle", wheel), ("handle", wheel), ("undo",), ("settle",), ("handle", rng.choice((True, None, "0", -1))),
    ))


def told_of(works):
    """All that is told of works."""
    return works.moment(), works.counts(), len(works), repr(works)


class Model:
    """What works are to do, kept as the list of what stood behind each deed."""

    def __init__(self, board, stand):
        self.board = board
        self.steps = [(moment(board, noughts(board), stand), noughts(board))]

    def do(self, name, *handed):
        """What is told, or the class of the error."""
        now, counts = self.steps[-1]
        if name == "undo":
            if len(self.steps) == 1:
                return NoDeed
            self.steps.pop()
            return None
        if name == "settle":
            end = end_of(self.board, now)
            if end[0] == "never":
                return NotNow
            self.steps.append((end[2], added(counts, end[1])))
            return end[1]
        wheel = handed[0]
        if type(wheel) is not int or not 0 <= wheel < len(counts):
            return NoWheel
        if name == "lay":
            if type(handed[1]) is not int or not 1 <= handed[1] <= 100:
                return NoNumber
            self.steps.append((with_part(now, (1, wheel), now[1][wheel] + handed[1]), counts))
            return None
        if now[1][wheel] == 0:
            return NotNow
        self.steps.append((handled(self.board, now, wheel), with_part(counts, (wheel,), counts[wheel] + 1)))
        return None

    def told_of(self):
        now, counts = self.steps[-1]
        return now, counts, len(self.steps) - 1, f"Works({sum(now[1])} waiting, {sum(now[2])} held)"


def do(works, name, *handed):
    """What the deed tells, or the class of the error by which it is refused."""
    try:
        return getattr(works, name)(*handed)
    except MarbleError as error:
        return type(error)


class WorksTest(Told):
    def test_at_first(self):
        for board in SOME:
            for stand in all_stands(board)[::max(1, len(all_stands(board)) // 5)]:
                works = Works(board, stand)
                self.assertEqual(works.moment(), (stand, noughts(board), (0,) * board[1]))
                self.assertEqual(works.counts(), noughts(board))
                self.assertEqual(len(works), 0)
                self.assertEqual(repr(works), "Works(0 waiting, 0 held)")
                self.assertEqual(works.end(), ("rests", noughts(board), works.moment()))
                self.assertRaises(NoDeed, works.undo)

    def test_each_deed(self):
        works = Works(WALK, (1, 0, 0))
        self.assertIs(works.lay(1, 3), None)
        self.assertEqual(told_of(works), (((1, 0, 0), (0, 3, 0), (0, 0)), (0, 0, 0), 1, "Works(3 waiting, 0 held)"))
        self.assertIs(works.handle(1), None)
        self.assertEqual(told_of(works), (((1, 1, 0), (1, 2, 0), (0, 0)), (0, 1, 0), 2, "Works(3 waiting, 0 held)"))
        self.assertIs(works.lay(2, 100), None)
        self.assertEqual(works.moment(), ((1, 1, 0), (1, 2, 100), (0, 0)))
        self.assertIs(works.undo(), None)
        self.assertEqual(told_of(works), (((1, 1, 0), (1, 2, 0), (0, 0)), (0, 1, 0), 2, "Works(3 waiting, 0 held)"))
        before = works.moment()
        counts = works.settle()
        self.assertEqual(("rests", counts, works.moment()), end_of(WALK, before))
        self.assertEqual(works.counts(), added((0, 1, 0), counts))
        self.assertEqual((len(works), repr(works)), (3, "Works(0 waiting, 3 held)"))
        self.assertIs(works.undo(), None)
        self.assertEqual((works.moment(), works.counts()), (before, (0, 1, 0)))

    def test_settle_tells_its_own_counts(self):
        works = Works(HALVES, (0, 0, 0))
        works.lay(0, 8)
        self.assertEqual(works.settle(), (8, 4, 2))
        self.assertEqual(works.moment(), ((0, 0, 0), (0, 0, 0), (1,)))
        works.lay(0, 4)
        works.handle(0)
        self.assertEqual(works.settle(), (3, 2, 1))
        self.assertEqual(works.counts(), (12, 6, 3))
        # Where nothing waits it is a deed, too.
        self.assertEqual(works.settle(), (0, 0, 0))
        self.assertEqual(len(works), 6)
        works.undo()
        works.undo()
        self.assertEqual(works.counts(), (9, 4, 2))
        self.assertEqual(works.moment(), ((1, 0, 0), (3, 0, 0), (1,)))

    def test_the_bounds_of_lay(self):
        works = Works(TURNS, (0, 0, 0))
        for wheel in range(3):
            for many in (1, 2, 99, 100):
                works.lay(wheel, many)
        self.assertEqual(works.moment()[1], (202, 202, 202))
        for again in range(20):
            works.lay(0, 100)
        self.assertEqual(works.moment()[1], (2202, 202, 202))
        self.assertEqual(len(works), 32)

    def test_as_the_model_does(self):
        rng = random.Random(111)
        kinds = set()
        for board in SOME:
            stand = rng.choice(all_stands(board))
            works, model = Works(board, stand), Model(board, stand)
            for again in range(60):
                deed = some_deed(rng, works)
                before = told_of(works)
                told = do(works, *deed)
                self.assertEqual(told, model.do(*deed), (board, deed))
                self.assertEqual(told_of(works), model.told_of(), (board, deed))
                if isinstance(told, type):
                    kinds.add(told)
                    self.assertEqual(told_of(works), before)
        self.assertEqual(kinds, {NoWheel, NoNumber, NotNow, NoDeed})

    def test_undone_one_by_one(self):
        rng = random.Random(112)
        for board in SOME:
            works = Works(board, rng.choice(all_stands(board)))
            path = [told_of(works)]
            while len(path) < 25:
                deed = some_deed(rng, works)
                if deed != ("undo",) and not isinstance(do(works, *deed), type):
                    path.append(told_of(works))
            while len(path) > 1:
                self.assertEqual(told_of(works), path.pop())
                works.undo()
            self.assertEqual(told_of(works), path[0])
            self.assertRaises(NoDeed, works.undo)
            self.assertEqual(told_of(works), path[0])

    def test_end(self):
        rng = random.Random(113)
        for board in SOME:
            works = Works(board, rng.choice(all_stands(board)))
            for again in range(12):
                do(works, *some_deed(rng, works))
                before = told_of(works)
                end = works.end()
                self.assertEqual(end, end_of(board, works.moment()))
                self.yes(is_end(board, works.moment(), end))
                self.assertEqual(told_of(works), before)


class RefusedTest(Told):
    def refused(self, works, kind, name, *handed):
        before = told_of(works)
        self.assertIs(do(works, name, *handed), kind, (name, handed))
        self.assertEqual(told_of(works), before)

    def test_no_wheel(self):
        works = Works(WALK, (0, 0, 0))
        works.lay(1, 2)
        wheels = (3, 4, -1, True, False, None, "1", (), (1,), [1], {}, 9999999999999)
        for wheel in wheels + tuple(thing for thing in ANYTHING if type(thing) is not int):
            self.refused(works, NoWheel, "handle", wheel)
            for many in (1, 0, 101, True, None):
                self.refused(works, NoWheel, "lay", wheel, many)

    def test_no_number(self):
        works = Works(WALK, (0, 0, 0))
        works.lay(1, 2)
        numbers = (0, 101, -1, 102, True, False, None, "1", (), (1,), [1], {}, 9999999999999)
        for many in numbers + tuple(thing for thing in ANYTHING if type(thing) is not int):
            self.refused(works, NoNumber, "lay", 1, many)

    def test_not_now(self):
        works = Works(WALK, (0, 0, 0))
        for wheel in range(3):
            self.refused(works, NotNow, "handle", wheel)
        works.lay(1, 1)
        self.refused(works, NotNow, "handle", 0)
        self.refused(works, NotNow, "handle", 2)
        works.handle(1)
        self.refused(works, NotNow, "handle", 1)

    def test_not_now_of_settle(self):
        for board, many in ((RING, 1), (EVER, 3), (TREBLER, 2), (MIXED, 50)):
            works = Works(board, noughts(board))
            self.assertEqual(works.settle(), noughts(board))
            works.lay(0, many)
            self.refused(works, NotNow, "settle")
            self.assertEqual(works.end()[0], "never")
            works.undo()
            self.assertEqual(works.settle(), noughts(board))
        # It rests on a board that keeps, with one less.
        works = Works(TREBLER, (0,))
        works.lay(0, 1)
        self.assertEqual(works.settle(), (1,))

    def test_no_deed(self):
        works = Works(WALK, (0, 0, 0))
        self.refused(works, NoDeed, "undo")
        works.lay(0, 1)
        works.settle()
        works.undo()
        works.undo()
        self.refused(works, NoDeed, "undo")
        # What was refused can't be undone.
        self.refused(works, NotNow, "handle", 0)
        self.refused(works, NoDeed, "undo")

    def test_no_board_then_no_stand(self):
        for thing in ANYTHING + (list(WALK), (WALK[0], 5), (WALK[0], True)):
            for stand in ((0, 0, 0), None, (0,), [0]):
                self.assertRaises(NoBoard, Works, thing, stand)
        stands = ((2, 0, 0), (0, 0), (0, 0, 0, 0), [0, 0, 0], (True, 0, 0), (0, -1, 0), (0, None, 0), ())
        for stand in stands + ANYTHING:
            self.assertRaises(NoStand, Works, WALK, stand)

    def test_boards_need_not_drain(self):
        for board in KEEPING:
            self.assertEqual(len(Works(board, noughts(board))), 0)


class TwinTest(Told):
    def test_its_own_from_then_on(self):
        works = Works(WALK, (0, 0, 0))
        works.lay(1, 5)
        works.handle(1)
        twin = works.twin()
        self.assertIsNot(twin, works)
        self.assertIs(type(twin), Works)
        self.yes(twin == works)
        self.assertEqual(told_of(twin), told_of(works))
        before = told_of(works)
        twin.handle(1)
        self.assertEqual(told_of(works), before)
        self.no(twin == works)
        twin.undo()
        twin.undo()
        twin.undo()
        self.assertEqual((told_of(works), len(twin)), (before, 0))
        after = told_of(twin)
        works.settle()
        works.lay(0, 1)
        self.assertEqual(told_of(twin), after)

    def test_the_same_deeds_can_be_undone(self):
        rng = random.Random(114)
        for board in SOME:
            works = Works(board, rng.choice(all_stands(board)))
            for again in range(15):
                do(works, *some_deed(rng, works))
            twin = works.twin()
            other = twin.twin()
            while len(works) > 0:
                self.assertEqual(told_of(works), told_of(twin))
                self.yes(works == twin)
                works.undo()
                twin.undo()
            self.assertEqual(told_of(works), told_of(twin))
            self.assertRaises(NoDeed, twin.undo)
            while len(other) > 0:
                other.undo()
            self.yes(other == works)


class LikeTest(Told):
    def like(self, one, other, answer):
        self.assertIs(one == other, answer)
        self.assertIs(other == one, answer)
        self.assertIs(one != other, not answer)
        self.assertIs(other != one, not answer)

    def test_though_the_deeds_were_others(self):
        one, other = Works(HALVES, (0, 0, 0)), Works(HALVES, (0, 0, 0))
        self.like(one, other, True)
        self.like(one, one, True)
        one.lay(0, 4)
        self.like(one, other, False)
        other.lay(0, 3)
        self.like(one, other, False)
        other.lay(0, 1)
        self.like(one, other, True)
        self.assertNotEqual(len(one), len(other))
        one.settle()
        self.like(one, other, False)
        for wheel in (0, 0, 1, 0, 0, 1, 2):
            other.handle(wheel)
        self.like(one, other, True)
        other.undo()
        self.like(one, other, False)

    def test_another_stand(self):
        self.like(Works(TURNS, (0, 0, 0)), Works(TURNS, (0, 1, 0)), False)

    def test_other_counts_at_the_same_moment(self):
        one, other = Works(RING, (0, 0)), Works(RING, (0, 0))
        one.lay(0, 1)
        other.lay(0, 1)
        one.handle(0)
        one.handle(1)
        self.assertEqual(one.moment(), other.moment())
        self.like(one, other, False)
        other.handle(0)
        other.handle(1)
        self.like(one, other, True)

    def test_other_boards(self):
        self.like(Works(LEAST, (0,)), Works(((((), ()),), 0), (0,)), False)
        self.like(Works(((((0,),),), 0), (0,)), Works(((((),),), 0), (0,)), False)
        self.like(Works(HALVES, (0, 0, 0)), Works((HALVES[0], 2), (0, 0, 0)), False)

    def test_what_is_no_works(self):
        works = Works(WALK, (0, 0, 0))
        for thing in ANYTHING + (works.moment(), WALK, repr(works), Works, [works], (works,), works.counts()):
            self.like(works, thing, False)


class ReprTest(Told):
    def test_how_many_in_all(self):
        works = Works(WALK, (0, 0, 0))
        works.lay(0, 1)
        works.lay(2, 2)
        self.assertEqual(repr(works), "Works(3 waiting, 0 held)")
        works.handle(0)
        self.assertEqual(repr(works), "Works(2 waiting, 1 held)")
        works.settle()
        self.assertEqual(repr(works), "Works(0 waiting, 3 held)")
        self.assertEqual(str(works), "Works(0 waiting, 3 held)")


class CallTest(Told):
    def test_names(self):
        for deed, names in (
            (Works, ["board", "stand"]), (Works.lay, ["self", "wheel", "many"]), (Works.handle, ["self", "wheel"]),
            (Works.undo, ["self"]), (Works.settle, ["self"]), (Works.counts, ["self"]), (Works.end, ["self"]),
            (Works.moment, ["self"]), (Works.twin, ["self"]),
        ):
            parameters = inspect.signature(deed).parameters.values()
            self.assertEqual([one.name for one in parameters], names)
            self.assertTrue(all(one.kind == one.POSITIONAL_OR_KEYWORD for one in parameters))

    def test_defined_in_the_class_itself(self):
        for name in "lay handle undo settle counts end moment twin __len__ __eq__ __repr__".split():
            self.assertIn(name, vars(Works))

    def test_by_name_in_another_order(self):
        one, other = Works(stand=(0, 1, 0), board=WALK), Works(WALK, (0, 1, 0))
        self.yes(one == other)
        one.lay(many=7, wheel=2)
        other.lay(2, many=7)
        self.yes(one == other)
        one.handle(wheel=2)
        other.handle(2)
        self.yes(one == other)

    def test_asked_again_and_nothing_changed(self):
        board, stand = copy.deepcopy(WALK), (1, 0, 1)
        works = Works(board, stand)
        works.lay(0, 9)
        works.handle(0)
        for again in range(3):
            self.assertEqual(told_of(works), told_of(works))
            self.assertEqual(works.end(), works.end())
        self.assertEqual((board, stand), (WALK, (1, 0, 1)))


if __name__ == "__main__":
    unittest.main()
