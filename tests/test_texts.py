"""[120] boards as texts."""

import inspect
import random
import re
import unittest

from marblefall.boards import is_board
from marblefall.errors import NoBoard, NoText
from marblefall.texts import board_text, read_board
from tests.things import (
    ANYTHING, BOARDS, CLIMB, DRAINING, HALVES, KEEPING, LEAST, MIXED, MOST, WALK, Told, some_boards,
)

SOME = BOARDS + DRAINING + KEEPING + tuple(some_boards(120, 6))
SIGNS = "".join(chr(code) for code in range(32, 127) if chr(code) != "%") + "\n"

# The forms of the lines, told otherwise than the program does.
NUMBER = "(?:0|[1-9][0-9]{0,12})"
STEP = f"(?:-|{NUMBER}(?:,{NUMBER})*)"
CUPS = re.compile(f"cups {NUMBER}")
WHEEL = re.compile(f"wheel(?: {STEP})+")


def line_refused(text):
    """The line with which the text is to be refused; None where it writes a board."""
    if not text.endswith("\n"):
        return 0
    lines = text.split("\n")[:-1]
    for number, line in enumerate(lines, start=1):
        if not (CUPS if number == 1 else WHEEL).fullmatch(line):
            return number
    wheels = tuple(
        tuple(() if step == "-" else tuple(int(end) for end in step.split(",")) for step in line.split(" ")[1:])
        for line in lines[1:]
    )
    return None if is_board((wheels, int(lines[0].split(" ")[1]))) else len(lines) + 1


def refused(thing):
    """The line with which it is refused; None where it isn't."""
    try:
        read_board(thing)
    except NoText as error:
        return error.line
    return None


class BoardTextTest(Told):
    def test_told_by_hand(self):
        self.assertEqual(board_text(LEAST), "cups 0\nwheel -\n")
        self.assertEqual(board_text(HALVES), "cups 1\nwheel - 1\nwheel - 2\nwheel - 3\n")
        self.assertEqual(board_text(WALK), "cups 2\nwheel 3 1\nwheel 0 2\nwheel 1 4\n")
        self.assertEqual(board_text(MIXED), "cups 2\nwheel 1,2,3 - 0 0,0,4\nwheel 3,3 4,0\nwheel 1,1\n")
        self.assertEqual(board_text(MOST), "cups 4\n" + "wheel 0,5,9 6,7,8 1,1,1 9,9,9\n" * 6)
        self.assertEqual(board_text(((((),) * 4,) * 2, 3)), "cups 3\nwheel - - - -\nwheel - - - -\n")

    def test_line_by_line(self):
        for board in SOME:
            lines = board_text(board).split("\n")
            self.assertEqual(lines.pop(), "")
            self.assertEqual(lines[0], f"cups {board[1]}")
            self.assertEqual(len(lines), 1 + len(board[0]))
            for line, steps in zip(lines[1:], board[0]):
                word, *texts = line.split(" ")
                self.assertEqual(word, "wheel")
                self.assertEqual(texts, [",".join(map(str, step)) or "-" for step in steps])

    def test_read_again(self):
        for board in SOME:
            told = read_board(board_text(board))
            self.assertEqual(told, board)
            self.yes(is_board(told))

    def test_no_board(self):
        for thing in ANYTHING + (list(WALK), (WALK[0], 5), (WALK[0], True)):
            self.assertRaises(NoBoard, board_text, thing)


class ReadBoardTest(Told):
    def test_what_is_no_text(self):
        for thing in ANYTHING + BOARDS + (["cups 0\n", "wheel -\n"], ("cups 0\nwheel -\n",), b"cups 0\nwheel -\n"):
            if not isinstance(thing, str):
                self.assertEqual(refused(thing), 0, thing)

    def test_no_line_end_last(self):
        for text in ("", " ", "cups 0", "cups 0\nwheel -", "cups 0\nwheel -\n ", "x", "wheel\nwheel", "\nx"):
            self.assertEqual(refused(text), 0, text)
        for board in SOME:
            self.assertEqual(refused(board_text(board)[:-1]), 0)

    def test_told_by_hand(self):
        for text, line in (
            ("\n", 1), ("\n\n", 1), ("cups 0\n", 2), ("cups 0\n\n", 2), ("cups 0\nwheel -\n\n", 3), ("wheel -\n", 1),
            ("wheel -\ncups 0\n", 1), ("cups 0\ncups 0\n", 2), ("cups 0\nwheel -\ncups 0\n", 3), ("cups 0\nwheel\n", 2),
            ("cups 0\nwheel \n", 2), ("cups 0\nwheel  -\n", 2), ("cups 0\nwheel - \n", 2), (" cups 0\nwheel -\n", 1),
            ("cups 0 \nwheel -\n", 1), ("cups  0\nwheel -\n", 1), ("cups\nwheel -\n", 1), ("cups \nwheel -\n", 1),
            ("cups 0\n wheel -\n", 2), ("cups 0\nwheel --\n", 2), ("cups 0\nwheel -,0\n", 2), ("cups 0\nwheel 0,\n", 2),
            ("cups 0\nwheel ,0\n", 2), ("cups 0\nwheel 0,,0\n", 2), ("cups 0\nwheel 0, 0\n", 2),
            ("cups 0\nwheel 00\n", 2), ("cups 0\nwheel 01\n", 2), ("cups 00\nwheel -\n", 1),
            ("cups 01\nwheel -\n", 1), ("cups +1\nwheel -\n", 1),
            ("cups -1\nwheel -\n", 1), ("cups 1.0\nwheel -\n", 1), ("cups 1_0\nwheel -\n", 1), ("cups -\nwheel -\n", 1),
            ("Cups 0\nwheel -\n", 1), ("cups 0\nWheel -\n", 2), ("cup 0\nwheel -\n", 1), ("cups 0\nwheels -\n", 2),
            ("cups 0 0\nwheel -\n", 1), ("cups 0\nwheel +0\n", 2), ("cups 0\nwheel -0\n", 2),
            ("cups 0\nwheel 0 x\n", 2),
            ("cups 0\nwheel -\nwheel x\nwheel y\n", 3), ("cups x\nwheel x\n", 1), ("cups 0\nwheel x\ncups x\n", 2),
            ("cups 0\nwheel 1\n", 3), ("cups 5\nwheel -\n", 3), ("cups 0\nwheel - - - - -\n", 3),
            ("cups 0\nwheel 0,0,0,0\n", 3), ("cups 0\n" + "wheel -\n" * 7, 9), ("cups 9\nwheel 8\nwheel 99\n", 4),
            ("cups 0\nwheel -\n", None), ("cups 0\n" + "wheel -\n" * 6, None), ("cups 4\nwheel 4,4,4 - 0 -\n", None),
        ):
            self.assertEqual(refused(text), line, text)
            self.assertEqual(line_refused(text), line, text)

    def test_thirteen_figures_and_fourteen(self):
        for text, line in (
            ("cups 9999999999999\nwheel -\n", 3), ("cups 99999999999999\nwheel -\n", 1),
            ("cups 1000000000000\nwheel -\n", 3), ("cups 10000000000000\nwheel -\n", 1),
            ("cups 0\nwheel 9999999999999\n", 3), ("cups 0\nwheel 10000000000000\n", 2),
            ("cups 0\nwheel 0,1234567890123\n", 3), ("cups 0\nwheel 0,12345678901234\n", 2),
            ("cups 0\nwheel 0 00000000000000\n", 2), ("cups " + "1" * 900 + "\nwheel -\n", 1),
        ):
            self.assertEqual(refused(text), line, text)

    def test_a_sign_otherwise_left_out_twice_or_put_in(self):
        rng = random.Random(121)
        lines = {}
        for board in SOME:
            text = board_text(board)
            for at in range(len(text)):
                near = [text[:at] + text[at + 1:], text[:at] + text[at] + text[at:]]
                for sign in rng.sample(SIGNS, 6) + rng.sample(" -,0123\n", 3):
                    near += [text[:at] + sign + text[at:], text[:at] + sign + text[at + 1:]]
                for other in near:
                    line = line_refused(other)
                    self.assertEqual(refused(other), line, other)
                    lines[line] = lines.get(line, 0) + 1
        self.assertTrue(all(lines.get(line, 0) > 50 for line in (None, 0, 1, 2, 3, 4, 5, 6, 7, 8)), lines)

    def test_a_word_or_a_line_otherwise(self):
        rng = random.Random(122)
        words = "cups wheel - 0 1 2 9 0,1 3,3 0,0,0 0,0,0,0 10 00 1, ,1 x".split() + ["", " "]
        for board in SOME:
            lines = board_text(board).split("\n")[:-1]
            texts = []
            for at in range(len(lines)):
                texts += [lines[:at] + lines[at + 1:], lines[:at] + [lines[at]] + lines[at:], lines[at:] + lines[:at]]
                texts += [lines[:at] + [other] + lines[at:] for other in ("", " ", "cups 0", "wheel -", "wheel", "x 1")]
                parts = lines[at].split(" ")
                for place in range(len(parts)):
                    ahead, then = parts[:place], parts[place + 1:]
                    near = [ahead + then]
                    for word in rng.sample(words, 5):
                        near += [ahead + [word] + then, ahead + [word] + parts[place:]]
                    texts += [lines[:at] + [" ".join(words_so)] + lines[at + 1:] for words_so in near]
            for some in texts:
                text = "".join(line + "\n" for line in some)
                self.assertEqual(refused(text), line_refused(text), text)

    def test_what_is_read_is_written_just_so(self):
        rng = random.Random(123)
        read = 0
        while read < 300:
            text = f"cups {rng.randrange(5)}\n"
            for wheel in range(rng.randint(1, 6)):
                steps = rng.choices(("-", "0", "1", "2", "0,1", "1,1,0", "3", "2,0"), k=rng.randint(1, 4))
                text += " ".join(["wheel"] + steps) + "\n"
            if line_refused(text) is None:
                read += 1
                self.assertEqual(board_text(read_board(text)), text)

    def test_all_signs_alone(self):
        for sign in SIGNS:
            self.assertEqual(refused(sign), 1 if sign == "\n" else 0)
            self.assertEqual(refused(sign + "\n"), 1)
            self.assertEqual(refused("cups 0\n" + sign + "\n"), 2)
            line = None if sign in "-0" else 3 if sign in "123456789" else 2
            self.assertEqual(refused("cups 0\nwheel " + sign + "\n"), line)


class CallTest(Told):
    def test_names(self):
        self.assertEqual(list(inspect.signature(board_text).parameters), ["board"])
        self.assertEqual(list(inspect.signature(read_board).parameters), ["text"])
        text = board_text(board=CLIMB)
        for again in range(2):
            self.assertEqual(read_board(text=text), CLIMB)
            self.assertEqual(board_text(CLIMB), text)

    def test_the_field_of_the_refusal(self):
        with self.assertRaises(NoText) as caught:
            read_board("cups 0\nwheel 0 -1\n")
        self.assertEqual(caught.exception.line, 2)
        self.assertIs(type(caught.exception.line), int)


if __name__ == "__main__":
    unittest.main()
