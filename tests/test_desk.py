"""[121] a desk."""

import inspect
import random
import unittest

from marblefall.desk import Desk
from marblefall.drains import drain_of
from marblefall.errors import MarbleError, NoBoard, NoDeed, NoDrain, NoLine, NoNumber, NotNow, NoWheel, TooMany
from marblefall.shares import shares
from marblefall.stands import is_again
from marblefall.texts import board_text
from marblefall.works import Works
from tests.things import (
    ANYTHING, BOARDS, CLIMB, DRAINING, EVER, HALVES, KEEPING, LEAST, RING, STANDS_576, STANDS_648, TURNS, WALK, Told,
    some_boards,
)

SOME = BOARDS + DRAINING + KEEPING + tuple(some_boards(130, 3))
QUESTIONS = ("stand", "waiting", "held", "end", "drains", "again")
DEEDS = ("lay 0 1", "handle 0", "undo", "settle")


def board_line(board):
    """The line by which the desk is told the board."""
    return "board " + " / ".join(board_text(board).split("\n")[:-1])


def desk_of(board, *lines):
    """A desk that was told the board and then the lines."""
    desk = Desk()
    for line in (board_line(board),) + lines:
        desk.say(line)
    return desk


def said(desk, line):
    """What is answered, or the class of the error."""
    try:
        return desk.say(line)
    except MarbleError as error:
        return type(error)


def spaced(numbers):
    return " ".join(map(str, numbers)) or "none"


def told_of(desk):
    """All that the desk tells of its works."""
    return tuple(said(desk, line) for line in QUESTIONS)


class Model:
    """What a desk is to answer to lines that are such lines, by works of its own."""

    def __init__(self, board):
        self.board = board
        self.works = Works(board, (0,) * len(board[0]))

    def say(self, line):
        word, *numbers = line.split(" ")
        numbers = [int(number) for number in numbers]
        works = self.works
        match word:
            case "lay" | "handle" | "undo":
                getattr(works, word)(*numbers)
                return "ok"
            case "settle":
                return spaced(works.settle())
            case "stand" | "waiting" | "held":
                return spaced(works.moment()[("stand", "waiting", "held").index(word)])
            case "end":
                end = works.end()
                return "never" if end[0] == "never" else f"rests {spaced(end[1])}"
            case "drains":
                return "yes" if drain_of(self.board)[0] == "drains" else "no"
            case "again":
                if drain_of(self.board)[0] == "keeps":
                    return "board"
                return "yes" if is_again(self.board, works.moment()[0]) else "no"
            case "shares":
                of_wheels = shares(self.board)
                if numbers[0] >= len(of_wheels):
                    raise NoWheel()
                return spaced([f"{top}/{bottom}".removesuffix("/1") for top, bottom in of_wheels[numbers[0]]])


class SayTest(Told):
    def conversation(self, *lines):
        desk = Desk()
        for line, answer in lines:
            self.assertEqual(said(desk, line), answer, line)

    def test_told_by_hand(self):
        self.conversation(
            ("board cups 2 / wheel 3 1 / wheel 0 2 / wheel 1 4", "ok"),
            ("stand", "0 0 0"), ("waiting", "0 0 0"), ("held", "0 0"), ("end", "rests 0 0 0"),
            ("lay 1 3", "ok"), ("waiting", "0 3 0"), ("end", "rests 3 5 2"), ("handle 1", "ok"), ("stand", "0 1 0"),
            ("waiting", "1 2 0"), ("again", "no"), ("undo", "ok"), ("stand", "0 0 0"), ("again", "yes"),
            ("settle", "3 5 2"), ("stand", "1 1 0"), ("waiting", "0 0 0"), ("held", "2 1"), ("end", "rests 0 0 0"),
            ("drains", "yes"), ("shares 0", "3/4 1/4"), ("shares 1", "1/2 1/2"), ("shares 2", "1/4 3/4"),
            ("undo", "ok"), ("undo", "ok"), ("waiting", "0 0 0"), ("undo", NoDeed),
        )

    def test_a_board_without_cups(self):
        self.conversation(
            ("board cups 0 / wheel - -", "ok"), ("held", "none"), ("shares 0", "none"), ("stand", "0"),
            ("lay 0 100", "ok"), ("waiting", "100"), ("handle 0", "ok"), ("waiting", "99"), ("stand", "1"),
            ("settle", "99"), ("stand", "0"), ("held", "none"), ("shares 1", NoWheel), ("drains", "yes"),
            ("again", "yes"),
        )

    def test_a_board_that_keeps(self):
        self.conversation(
            ("board cups 0 / wheel 1 / wheel 0", "ok"), ("drains", "no"), ("again", "board"), ("shares 0", NoDrain),
            ("shares 9", NoDrain), ("end", "rests 0 0"), ("lay 0 1", "ok"), ("end", "never"), ("settle", NotNow),
            ("handle 0", "ok"), ("waiting", "0 1"), ("handle 0", NotNow), ("end", "never"), ("undo", "ok"),
            ("waiting", "1 0"),
        )

    def test_whole_shares(self):
        self.conversation(
            ("board cups 3 / wheel 1,2,2 -", "ok"), ("shares 0", "1/2 1 0"),
            ("board cups 2 / wheel 1,2,2", "ok"), ("shares 0", "1 2"),
            ("board cups 1 / wheel 0,1,1 - 1", "ok"), ("shares 0", "3/2"),
        )

    def test_a_board_told_anew_is_fresh(self):
        desk = desk_of(HALVES, "lay 0 9", "settle", "lay 1 1")
        self.assertEqual(desk.say(board_line(HALVES)), "ok")
        self.assertEqual(told_of(desk), told_of(desk_of(HALVES)))
        self.assertRaises(NoDeed, desk.say, "undo")
        desk.say("lay 0 1")
        self.assertEqual(desk.say(board_line(WALK)), "ok")
        self.assertEqual(told_of(desk), told_of(desk_of(WALK)))

    def test_two_desks(self):
        one, other = desk_of(WALK, "lay 1 5"), Desk()
        self.assertRaises(NoBoard, other.say, "stand")
        other.say(board_line(WALK))
        before = told_of(other)
        one.say("settle")
        self.assertEqual(told_of(other), before)
        other.say("lay 0 2")
        self.assertEqual(one.say("waiting"), "0 0 0")
        self.assertEqual(other.say("waiting"), "2 0 0")

    def test_as_the_model_answers(self):
        rng = random.Random(131)
        kinds = set()
        for board in SOME:
            if board in (CLIMB, STANDS_576, STANDS_648):
                continue
            desk, model = desk_of(board), Model(board)
            for again in range(40):
                wheel = rng.randrange(len(board[0]) + 1)
                line = rng.choice(QUESTIONS + (
                    f"lay {wheel} {rng.choice((0, 1, 3, 100, 101))}", f"lay {wheel} 2", f"handle {wheel}",
                    f"handle {wheel}", "undo", "settle", f"shares {wheel}",
                ))
                before = told_of(desk)
                answer = said(desk, line)
                self.assertEqual(answer, said(model, line), (board, line))
                if isinstance(answer, type):
                    kinds.add(answer)
                    self.assertEqual(told_of(desk), before)
                else:
                    self.assertIs(type(answer), str)
        self.assertLessEqual({NoWheel, NoNumber, NotNow, NoDeed, NoDrain}, kinds)

    def test_all_boards(self):
        for board in SOME:
            desk = desk_of(board)
            self.assertEqual(desk.say("stand"), spaced((0,) * len(board[0])))
            self.assertEqual(desk.say("held"), spaced((0,) * board[1]))
            self.assertEqual(desk.say("drains"), "yes" if drain_of(board)[0] == "drains" else "no")

    def test_again_of_many_stands(self):
        self.assertEqual(desk_of(STANDS_576).say("again"), "yes" if is_again(STANDS_576, (0,) * 5) else "no")
        for board, many in ((STANDS_648, 648), (CLIMB, 4096)):
            desk = desk_of(board)
            with self.assertRaises(TooMany) as caught:
                desk.say("again")
            self.assertEqual((caught.exception.many, caught.exception.most), (many, 600))
            self.assertEqual(desk.say("drains"), "yes")
        # A board that keeps is answered, however many stands it has.
        keeps = ((((0,),) * 4,) * 6, 0)
        self.assertEqual(desk_of(keeps).say("again"), "board")


class NoLineTest(Told):
    def refused(self, lines):
        """That each is refused with NoLine, works kept or not, and changes nothing."""
        for board in (None, WALK, RING):
            desk = Desk() if board is None else desk_of(board, "lay 0 2", "handle 0")
            before = told_of(desk)
            for line in lines:
                self.assertIs(said(desk, line), NoLine, line)
                self.assertEqual(told_of(desk), before, line)

    def test_what_is_no_text(self):
        self.refused([thing for thing in ANYTHING if not isinstance(thing, str)] + [["undo"], ("lay", 0, 1), b"undo"])

    def test_no_such_line(self):
        self.refused([thing for thing in ANYTHING if isinstance(thing, str) and thing != "drains"])
        self.refused((
            "", " ", "\n", "undo ", " undo", "undo\n", "Undo", "undo 1", "undo undo", "undone", "und", "settle 0",
            "stand 0", "waiting 0", "held 0", "end 0", "drains 0", "again 0", "lay", "lay 0", "lay 0 1 1", "lay 0 1 ",
            "lay  0 1", "lay 0  1", "lay 0,1", "lay 0 -1", "lay +0 1", "lay 00 1", "lay 0 01", "lay 0 1.0", "lay x 1",
            "lay 0 x", "lay 0 12345678901234", "lay 12345678901234 1", "lay 0 1\n", "handle", "handle ", "handle 0 0",
            "handle -1", "handle 00", "handle x", "handle 10000000000000", "shares", "shares ", "shares 0 0",
            "shares -1", "shares 01", "shares 1/2", "rests", "never", "yes", "ok", "none", "len", "twin", "counts",
            "moment", "quit", "lay\t0 1", "stand\nstand", "lay 0 1\nlay 0 1", "/", " / ", "undo / undo",
        ))

    def test_a_board_that_can_not_be_read(self):
        self.refused((
            "board", "board ", "board  cups 0 / wheel -", "board cups 0", "board cups 0 / ", "board cups 0 / wheel",
            "board cups 0 / wheel - / ", "board cups 0 / wheel - /", "board cups 0 /wheel -", "board cups 0/ wheel -",
            "board cups 0/wheel -", "board cups 0 // wheel -", "board cups 0  /  wheel -", "board cups 0 / / wheel -",
            "board cups 0 /  / wheel -", "board / cups 0 / wheel -", "board  / cups 0 / wheel -",
            "board wheel - / cups 0", "board cups 0 / wheel 1", "board cups 5 / wheel -",
            "board cups 0 / wheel - - - - -", "board cups 0 / wheel 0,0,0,0", "board cups 0" + " / wheel -" * 7,
            "board cups 00 / wheel -", "board cups 0 / wheel 00", "board cups 0 / wheel - / cups 0",
            "board cups 0 / wheel -\n", "board cups 0\nwheel -", "board cups 0\nwheel -\n",
            "board cups 0 / wheel -\nwheel -", "board\ncups 0 / wheel -", "Board cups 0 / wheel -",
            "boards cups 0 / wheel -", "cups 0 / wheel -", " board cups 0 / wheel -", "board cups 0 / wheel - ",
            "board cups 12345678901234 / wheel -", "board board cups 0 / wheel -",
        ))

    def test_a_board_just_so(self):
        self.assertEqual(Desk().say("board cups 0 / wheel -"), "ok")
        self.assertEqual(Desk().say("board cups 0" + " / wheel -" * 6), "ok")
        self.assertEqual(Desk().say("board cups 4 / wheel 4,4,4 - 0 -"), "ok")

    def test_signs_put_in_and_left_out(self):
        texts = {board_line(WALK), "undo", "settle", "stand", "waiting", "held", "end", "drains", "again", "lay 0 1"}
        lines = set()
        for text in texts:
            for at in range(len(text)):
                lines |= {text[:at] + text[at + 1:], text[:at] + "x" + text[at:], text[:at] + "\n" + text[at:]}
                lines |= {text[:at] + " " + text[at:], text[:at] + "-" + text[at + 1:], text[:at] + "/" + text[at:]}
        # These are lines again: other numbers of ends, wheels and cups.
        right = {line for line in lines if said(desk_of(WALK, "lay 0 1"), line) is not NoLine}
        self.assertTrue(all(line.startswith(("board cups ", "lay ")) for line in right), right)
        self.refused(lines - right)
        self.assertGreater(len(lines - right), 300)


class OrderTest(Told):
    def test_no_board_where_no_works_are_kept(self):
        desk = Desk()
        for line in QUESTIONS + DEEDS + ("shares 0", "lay 9 0", "lay 9 999", "handle 9", "shares 9999999999999"):
            self.assertIs(said(desk, line), NoBoard, line)
        # Behind a board that can't be read there are none, too.
        self.assertIs(said(desk, "board cups 0 / wheel 9"), NoLine)
        self.assertIs(said(desk, "stand"), NoBoard)

    def test_what_works_refuse(self):
        desk = desk_of(WALK)
        for line, kind in (
            ("lay 3 1", NoWheel), ("lay 9999999999999 1", NoWheel), ("lay 3 0", NoWheel), ("lay 3 101", NoWheel),
            ("lay 0 0", NoNumber), ("lay 0 101", NoNumber), ("lay 2 9999999999999", NoNumber), ("handle 3", NoWheel),
            ("handle 0", NotNow), ("handle 2", NotNow), ("undo", NoDeed),
        ):
            before = told_of(desk)
            self.assertIs(said(desk, line), kind, line)
            self.assertEqual(told_of(desk), before)
        desk = desk_of(EVER, "lay 0 1")
        before = told_of(desk)
        self.assertIs(said(desk, "settle"), NotNow)
        self.assertEqual(told_of(desk), before)

    def test_what_shares_refuse(self):
        for board in KEEPING:
            for wheel in (0, 5, 6, 9999999999999):
                self.assertIs(said(desk_of(board), f"shares {wheel}"), NoDrain)
        for board in (LEAST, WALK, TURNS):
            for wheel in (len(board[0]), 6, 9999999999999):
                self.assertIs(said(desk_of(board), f"shares {wheel}"), NoWheel)

    def test_thirteen_figures_are_a_number(self):
        self.assertIs(said(desk_of(WALK), "lay 1234567890123 1"), NoWheel)
        self.assertIs(said(desk_of(WALK), "lay 12345678901234 1"), NoLine)
        self.assertIs(said(desk_of(WALK), "lay 0 1234567890123"), NoNumber)
        self.assertIs(said(desk_of(WALK), "lay 0 12345678901234"), NoLine)


class CallTest(Told):
    def test_names(self):
        self.assertEqual(list(inspect.signature(Desk).parameters), [])
        self.assertEqual(list(inspect.signature(Desk.say).parameters), ["self", "line"])
        self.assertIn("say", vars(Desk))
        self.assertEqual(Desk().say(line="board cups 0 / wheel -"), "ok")

    def test_asked_again(self):
        desk = desk_of(WALK, "lay 0 7", "handle 0")
        for again in range(3):
            self.assertEqual(told_of(desk), ("1 0 0", "6 0 0", "1 0", said(desk, "end"), "yes", "yes"))
            self.assertEqual(desk.say("shares 1"), "1/2 1/2")


if __name__ == "__main__":
    unittest.main()
