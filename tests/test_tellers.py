"""[80] tellers and words, [81] tellers parted."""

import itertools
import random
import unittest

from marblefall.errors import NotAlike, NoWord, TooMany
from marblefall.stands import dropped
from marblefall.tellers import is_teller, parted, shows_parted, told
from tests.things import (
    ANYTHING, CLIMB, DRAINING, EVER, HALVES, KEEPING, LEAST, ROUND, STANDS_648, TURNS, WALK, Told, added, all_stands,
    all_words, number_paths, one_drop, part_at, some_boards, some_teller, told_one_by_one, tuple_paths, with_part,
)

WALKER = (WALK, (0, 0, 0), (0, 1, 2))
COUNTER = (HALVES, (0, 0, 0), (0,))
FORK = ((((1,), (2,)),), 2)

# Boards of 54 and 64 stands, the most that are let and the fewest that are not.
STANDS_54 = ((((), (), (1,)), ((), (), (2,)), ((), (0,), (3,)), ((), (4,))), 1)
STANDS_64 = ((((), (), (), (1,)), ((), (), (2,), ()), ((), (), (0,), (3,))), 1)

SMALL = (LEAST, HALVES, WALK, TURNS, FORK, STANDS_54) + tuple(
    some_boards(80, 8, "drains", most_wheels=4, most_stands=36)
)


def tellers(seed, many, boards=SMALL):
    """Tellers by chance, always the same."""
    rng = random.Random(seed)
    return [some_teller(rng, rng.choice(boards)) for again in range(many)]


def twice_over(teller):
    """The teller with the steps of each wheel twice over, of one with at most two steps a wheel."""
    board, stand, mouths = teller
    return (tuple(steps + steps for steps in board[0]), board[1]), stand, mouths


def numbered_otherwise(teller, order):
    """The teller with its wheels in another order: at each place which of its wheels comes there."""
    (wheels, cups), stand, mouths = teller
    numbers = {old: new for new, old in enumerate(order)}
    numbers |= {len(wheels) + cup: len(wheels) + cup for cup in range(cups)}
    steps = tuple(tuple(tuple(numbers[end] for end in step) for step in wheels[old]) for old in order)
    return (steps, cups), tuple(stand[old] for old in order), tuple(numbers[wheel] for wheel in mouths)


def with_an_end_less(teller):
    """The tellers that are like this one but for one end of one step."""
    (wheels, cups), stand, mouths = teller
    for path in tuple_paths(wheels):
        if len(path) == 2:
            step = part_at(wheels, path)
            for at in range(len(step)):
                yield (with_part(wheels, path, step[:at] + step[at + 1:]), cups), stand, mouths


def pairs_reached(one, other):
    """All pairs of stands that are come to by drops at like places."""
    found = {(one[1], other[1])}
    fresh = list(found)
    while fresh:
        first, second = fresh.pop()
        for mouth, twin in zip(one[2], other[2]):
            then = one_drop(one[0], first, mouth)[0], one_drop(other[0], second, twin)[0]
            if then not in found:
                found.add(then)
                fresh.append(then)
    return found


def like_cups(one, other, pair):
    """Whether at the pair of stands a drop at like places gives like cups."""
    return all(
        one_drop(one[0], pair[0], mouth)[1] == one_drop(other[0], pair[1], twin)[1]
        for mouth, twin in zip(one[2], other[2])
    )


def kept(one, other, pairs):
    """Whether pairs in a set show the tellers alike."""
    return (one[1], other[1]) in pairs and all(
        like_cups(one, other, pair) and pairs_reached((one[0], pair[0], one[2]), (other[0], pair[1], other[2])) <= pairs
        for pair in pairs
    )


class TellerTest(Told):
    def test_tellers(self):
        for board in DRAINING:
            for stand in all_stands(board)[::max(1, len(all_stands(board)) // 5)]:
                for many in (1, 2, 3):
                    for mouths in itertools.product(range(len(stand)), repeat=many):
                        self.yes(is_teller((board, stand, mouths)))

    def test_boards(self):
        for board in KEEPING:
            stand = (0,) * len(board[0])
            self.no(is_teller((board, stand, (0,))), board)
        for board in ANYTHING:
            self.no(is_teller((board, (0, 0, 0), (0,))), board)
        # A wheel that sends each marble back to itself; the same with one that goes.
        self.no(is_teller((((((0,), (0,)),), 0), (0,), (0,))))
        self.yes(is_teller((((((0,), ()),), 0), (0,), (0,))))

    def test_stands(self):
        stands = (
            (2, 0, 0), (0, 2, 0), (0, 0, 2), (-1, 0, 0), (0, 0), (0, 0, 0, 0), (), [0, 0, 0], (True, 0, 0),
            (0, False, 0), (0, None, 0), (0, (0,), 0), "000",
        )
        for stand in stands + ANYTHING:
            self.no(is_teller((WALK, stand, (0,))), stand)

    def test_mouths(self):
        self.yes(is_teller((WALK, (0, 0, 0), (2, 2, 2))))
        mouths = (
            (), (0,) * 4, (0, 1, 2, 0), (3,), (0, 3), (0, 1, 3), (-1,), (0, -1, 1), (True,), (0, False), (None,),
            (0, None), ((0,),), (0, (1,)), [0], [0, 1, 2], ([0],), ("0",), "0", 0, {0: 0}, (0, 9999999999999),
        )
        for wrong in mouths + ANYTHING:
            self.no(is_teller((WALK, (0, 0, 0), wrong)), wrong)

    def test_each_part_otherwise(self):
        for teller in (WALKER, COUNTER, (TURNS, (1, 1, 2), (2, 0))):
            self.yes(is_teller(teller))
            for path in number_paths(teller):
                for wrong in (True, False, None, -1, 9, "0", (), [0], {}):
                    self.no(is_teller(with_part(teller, path, wrong)), (teller, path, wrong))
            for path in tuple_paths(teller):
                part = part_at(teller, path)
                for wrong in (list(part), None, dict(enumerate(part)), 0, str(part)):
                    self.no(is_teller(with_part(teller, path, wrong)), (teller, path, wrong))

    def test_too_few_and_too_many_parts(self):
        for thing in ((), WALKER[:1], WALKER[:2], WALKER[1:], WALKER + ((),), WALKER * 2, WALKER[::-1], (WALKER,)):
            self.no(is_teller(thing), thing)

    def test_anything(self):
        for thing in ANYTHING + DRAINING + KEEPING:
            self.no(is_teller(thing), thing)


class ToldTest(Told):
    def test_told_by_hand(self):
        self.assertEqual(told(WALKER, (0, 1, 2, 1, 1)), ((1, 0), (1, 0), (0, 1), (0, 1), (1, 0)))
        self.assertEqual(told(COUNTER, (0,) * 9), ((0,),) * 7 + ((1,), (0,)))
        self.assertEqual(told((HALVES, (1, 1, 1), (2, 0, 2)), (1, 0, 2)), ((1,), (0,), (1,)))
        self.assertEqual(told((LEAST, (0,), (0,)), (0, 0)), ((), ()))
        # Two at once into a cup.
        self.assertEqual(told((((((1, 1), ()),), 1), (0,), (0, 0)), (1, 0, 1)), ((2,), (0,), (2,)))

    def test_the_empty_word(self):
        for teller in tellers(81, 40) + [WALKER, COUNTER]:
            self.assertEqual(told(teller, ()), ())

    def test_one_drop(self):
        for board, stand, mouths in tellers(82, 100):
            for place, wheel in enumerate(mouths):
                drops = with_part((0,) * len(stand), (wheel,), 1)
                self.assertEqual(told((board, stand, mouths), (place,)), (dropped(board, stand, drops)[2],))

    def test_many_drops_one_by_one(self):
        rng = random.Random(83)
        for teller in tellers(84, 120) + [some_teller(rng, STANDS_648) for again in range(3)]:
            word = tuple(rng.randrange(len(teller[2])) for drop in range(rng.choice((2, 3, 40))))
            answer = told(teller, word)
            self.assertEqual((type(answer), len(answer)), (tuple, len(word)))
            self.assertEqual(answer, told_one_by_one(teller, word), (teller, word))
            board, stand, mouths = teller
            for place, gains in zip(word, answer):
                stand, counts, cups = dropped(board, stand, with_part((0,) * len(stand), (mouths[place],), 1))
                self.assertEqual(gains, cups)

    def test_in_another_order_as_much_in_all(self):
        rng = random.Random(85)
        differ = 0
        for teller in tellers(86, 80):
            word = [rng.randrange(len(teller[2])) for drop in range(12)]
            first = told(teller, tuple(word))
            for again in range(3):
                rng.shuffle(word)
                other = told(teller, tuple(word))
                self.assertEqual([sum(cup) for cup in zip(*first)], [sum(cup) for cup in zip(*other)])
                differ += first != other
        self.assertGreater(differ, 20)

    def test_a_part_of_a_word(self):
        word = (0, 2, 1, 1, 0, 2, 2, 1, 0, 0)
        for cut in range(len(word)):
            self.assertEqual(told(WALKER, word[:cut]), told(WALKER, word)[:cut])

    def test_a_long_word(self):
        answer = told(COUNTER, (0,) * 3000)
        self.assertEqual([at for at, gains in enumerate(answer) if gains == (1,)], list(range(7, 3000, 8)))
        teller = ((CLIMB[0][:5] + (((4,), (6,), (4,), ()),), 1), (0,) * 6, (0, 3, 5))
        word = (0, 1, 2, 1) * 75
        self.assertEqual(told(teller, word)[:8], told_one_by_one(teller, word[:8]))

    def test_no_word(self):
        words = (
            (3,), (0, 3), (-1,), (0, -1), (True,), (0, False), (None,), (0, None), ((0,),), ([0],), ("0",), [], [0],
            "", "0", 0, None, {}, {0: 0}, (0, 9999999999999), (0, 1, (2,)),
        )
        anything = tuple(thing for thing in ANYTHING if thing != ())
        for word in words + anything:
            self.assertRaises(NoWord, told, WALKER, word)
        # A place in mouths, not a wheel.
        self.assertRaises(NoWord, told, (WALK, (0, 0, 0), (2,)), (2,))
        self.assertRaises(NoWord, told, (WALK, (0, 0, 0), (2, 1)), (2,))
        self.assertEqual(told((WALK, (0, 0, 0), (2, 1)), (1,)), ((1, 0),))


class PartedTest(Told):
    def check(self, one, other, most):
        """That what is told is so; against all words of up to so many drops."""
        answer = parted(one, other)
        self.assertEqual((type(answer), len(answer)), (tuple, 2))
        kind, shown = answer
        reached = pairs_reached(one, other)
        self.assertEqual(kind == "alike", all(like_cups(one, other, pair) for pair in reached), (one, other))
        if kind == "alike":
            self.assertEqual(shown, tuple(sorted(reached)), (one, other))
        else:
            self.assertEqual(kind, "apart")
            self.assertEqual(told_one_by_one(one, shown)[:-1], told_one_by_one(other, shown)[:-1])
            self.assertNotEqual(told_one_by_one(one, shown), told_one_by_one(other, shown))
        for word in all_words(len(one[2]), most):
            if told_one_by_one(one, word) != told_one_by_one(other, word):
                self.assertEqual(answer, ("apart", word), (one, other))
                break
        else:
            self.assertTrue(kind == "alike" or len(shown) > most, (one, other))
        self.yes(shows_parted(one, other, answer), (one, other))
        self.assertEqual(parted(other, one)[0], kind)
        return kind

    def test_told_by_hand(self):
        self.assertEqual(parted(COUNTER, (HALVES, (1, 0, 0), (0,))), ("apart", (0,) * 7))
        self.assertEqual(parted(COUNTER, (HALVES, (0, 0, 1), (0,))), ("apart", (0,) * 4))
        self.assertEqual(parted(WALKER, (WALK, (1, 0, 0), (0, 1, 2))), ("apart", (2,)))
        # One wheel of two steps and one of four that goes through the same twice.
        fork, double = (FORK, (1,), (0, 0)), (((FORK[0][0] * 2,), 2), (3,), (0, 0))
        self.assertEqual(
            parted(fork, double), ("alike", (((0,), (0,)), ((0,), (2,)), ((1,), (1,)), ((1,), (3,)))),
        )
        # Without cups nobody can part them.
        self.assertEqual(parted((LEAST, (0,), (0,)), (LEAST, (0,), (0,))), ("alike", (((0,), (0,)),)))
        still = (((((), ()),), 0), (1,), (0, 0))
        less = (((((),),), 0), (0,), (0, 0))
        self.assertEqual(parted(still, less), ("alike", (((0,), (0,)), ((1,), (0,)))))

    def test_of_as_short_ones_the_least(self):
        # A drop at either mouth but the first parts them.
        one = (((((3,),), ((3,),), ((4,),)), 2), (0, 0, 0), (0, 1, 2))
        other = (((((3,),), ((4,),), ((3,),)), 2), (0, 0, 0), (0, 1, 2))
        self.assertEqual(parted(one, other), ("apart", (1,)))
        # Only a drop at the last mouth parts them at once; ones at the first do behind two more.
        one = (((((2,), (2,), (3,)), ((2,),)), 2), (0, 0), (0, 1))
        other = (((((2,), (2,), (2,)), ((3,),)), 2), (0, 0), (0, 1))
        self.assertEqual(parted(one, other), ("apart", (1,)))
        # Two drops at one mouth or at the other, or one at each: the least of the words of two.
        one = (((((), (1,)),), 1), (0,), (0, 0))
        other = (((((), ()),), 1), (0,), (0, 0))
        self.assertEqual(parted(one, other), ("apart", (0, 0)))
        one = (((((2,),), ((2,), (3,))), 2), (0, 0), (0, 1))
        other = (((((2,),), ((2,), (2,))), 2), (0, 0), (0, 1))
        self.assertEqual(parted(one, other), ("apart", (1, 1)))

    def test_itself(self):
        for teller in tellers(87, 60) + [WALKER, COUNTER]:
            kind, pairs = parted(teller, teller)
            self.assertEqual(kind, "alike")
            self.assertEqual({one for one, other in pairs}, {stand for stand, other in pairs_reached(teller, teller)})
            self.assertTrue(all(one == other for one, other in pairs))
            self.check(teller, teller, 3)

    def test_at_another_stand(self):
        kinds = {"alike": 0, "apart": 0}
        for board, stand, mouths in tellers(88, 100) + [WALKER, COUNTER]:
            for other in all_stands(board)[::max(1, len(all_stands(board)) // 6)]:
                kinds[self.check((board, stand, mouths), (board, other, mouths), 4)] += 1
        self.assertGreater(min(kinds.values()), 30)

    def test_with_an_end_less(self):
        kinds = {"alike": 0, "apart": 0}
        for teller in tellers(89, 60) + [WALKER, COUNTER]:
            for other in with_an_end_less(teller):
                kinds[self.check(teller, other, 4)] += 1
        self.assertGreater(min(kinds.values()), 30)

    def test_with_its_steps_twice_over(self):
        seen = 0
        for teller in tellers(90, 80) + [WALKER, COUNTER]:
            if max(len(steps) for steps in teller[0][0]) <= 2:
                other = twice_over(teller)
                if len(all_stands(other[0])) <= 60:
                    seen += 1
                    self.assertEqual(self.check(teller, other, 3), "alike")
        self.assertGreater(seen, 10)
        # Further on in the steps by a whole turn of the old wheel it is alike, too.
        (board, stand, mouths) = twice_over((FORK, (1,), (0,)))
        self.assertEqual(self.check((FORK, (1,), (0,)), (board, (3,), mouths), 5), "alike")
        self.assertEqual(self.check((FORK, (1,), (0,)), (board, (2,), mouths), 5), "apart")

    def test_with_wheels_numbered_otherwise(self):
        for teller in tellers(91, 40) + [WALKER, COUNTER]:
            for order in itertools.permutations(range(len(teller[1]))):
                self.assertEqual(self.check(teller, numbered_otherwise(teller, order), 2), "alike")

    def test_any_two(self):
        kinds = {"alike": 0, "apart": 0}
        some = tellers(92, 150)
        for one, other in itertools.product(some, repeat=2):
            if len(one[2]) == len(other[2]) and one[0][1] == other[0][1]:
                kinds[self.check(one, other, 3)] += 1
        self.assertGreater(min(kinds.values()), 30)

    def test_far_words(self):
        # 54 stands, the cup filled by each 27th drop or so: it takes long to part them.
        longest = 0
        one = (STANDS_54, (0, 0, 0, 0), (0,))
        for stand in all_stands(STANDS_54):
            self.check(one, (STANDS_54, stand, (0,)), 2)
            kind, shown = parted(one, (STANDS_54, stand, (0,)))
            longest = max(longest, len(shown) if kind == "apart" else 0)
        self.assertGreater(longest, 20)

    def test_not_alike(self):
        for ask in (parted, lambda one, other: shows_parted(one, other, None)):
            for mouths in ((0,), (0, 1), (2, 2)):
                self.assertRaises(NotAlike, ask, WALKER, (WALK, (0, 0, 0), mouths))
                self.assertRaises(NotAlike, ask, (WALK, (0, 0, 0), mouths), WALKER)
            for cups in (0, 1, 3, 4):
                other = (((((),),), cups), (0,), (0, 0, 0))
                self.assertRaises(NotAlike, ask, WALKER, other)
                self.assertRaises(NotAlike, ask, other, WALKER)
        self.assertEqual(parted(WALKER, (((((),),), 2), (0,), (0, 0, 0)))[0], "apart")

    def test_too_many(self):
        few, many = (STANDS_54, (0,) * 4, (0,)), (STANDS_64, (0,) * 3, (0,))
        more = (((((),) * 3,) * 6, 1), (0,) * 6, (0,))
        asks = (
            parted, lambda one, other: shows_parted(one, other, None),
            lambda one, other: shows_parted(one, other, ("apart", (0,))),
        )
        for ask in asks:
            ask(few, few)
            for one, other, stands in (
                (many, few, 64), (few, many, 64), (many, many, 64), (many, more, 64), (more, many, 729),
                (few, more, 729),
            ):
                with self.assertRaises(TooMany) as caught:
                    ask(one, other)
                self.assertEqual((caught.exception.many, caught.exception.most), (stands, 60))
            # As many mouths and cups are asked for first.
            self.assertRaises(NotAlike, ask, many, (STANDS_64, (0,) * 3, (0, 0)))
        # A teller with more stands is a teller, and its words are told.
        self.yes(is_teller(more))
        self.assertEqual(told(many, (0,) * 5), ((0,),) * 5)


class ShowsPartedTest(Told):
    def test_all_pairs_of_stands(self):
        for board in (FORK, WALK, HALVES, TURNS):
            stands = all_stands(board)
            teller = (board, stands[0], (0,))
            self.yes(shows_parted(teller, teller, ("alike", tuple((stand, stand) for stand in stands))))
            self.no(shows_parted(teller, teller, ("alike", tuple(itertools.product(stands, repeat=2)))))
        # Without cups all pairs show it.
        still = ((((), (1,), ()), ((), ())), 0)
        one, other = (still, (0, 0), (0, 1)), (still, (2, 1), (1, 1))
        pairs = tuple(itertools.product(all_stands(still), repeat=2))
        self.yes(shows_parted(one, other, ("alike", pairs)))
        self.assertLess(len(parted(one, other)[1]), len(pairs))

    def test_all_tuples_of_pairs(self):
        answers = {True: 0, False: 0}
        lame = ((((1,), ()),), 2)
        still = ((((), ()),), 0)
        for board, twin, mouths in (
            (FORK, FORK, (0,)), (FORK, ((FORK[0][0] * 2,), 2), (0,)), (FORK, lame, (0, 0)), (still, still, (0,)),
            (((((0,), (1,)),), 1), ((((0,), (1,), (0,), (1,)),), 1), (0,)),
            (((((), (1,)), ((2,),)), 1), ((((), (1,)), ((2,),)), 1), (0, 1)),
        ):
            pairs = list(itertools.product(all_stands(board), all_stands(twin)))
            for some in [one for many in range(len(pairs) + 1) for one in itertools.combinations(pairs, many)]:
                for start in pairs[::3]:
                    one, other = (board, start[0], mouths), (twin, start[1], mouths)
                    answer = shows_parted(one, other, ("alike", some))
                    self.assertIs(answer, kept(one, other, set(some)), (one, other, some))
                    answers[answer] += 1
        self.assertGreater(min(answers.values()), 20)

    def test_pairs_otherwise(self):
        one, other = (WALK, (0, 1, 0), (0, 1, 2)), numbered_otherwise((WALK, (0, 1, 0), (0, 1, 2)), (2, 0, 1))
        pairs = parted(one, other)[1]
        start = (one[1], other[1])
        self.assertEqual(len(pairs), 5)
        self.yes(shows_parted(one, other, ("alike", pairs)))
        for pair in pairs:
            self.no(shows_parted(one, other, ("alike", tuple(each for each in pairs if each != pair))))
            self.no(shows_parted(one, other, ("alike", tuple(sorted(pairs + (pair,))))))
        more = 0
        for pair in itertools.product(all_stands(WALK), repeat=2):
            if pair not in pairs:
                answer = shows_parted(one, other, ("alike", tuple(sorted(pairs + (pair,)))))
                self.assertIs(answer, kept(one, other, set(pairs) | {pair}))
                more += answer
        self.assertGreater(more, 0)
        wrongs = [
            pairs[::-1], pairs[1:] + pairs[:1], list(pairs), (pairs,), (), (start,), dict.fromkeys(pairs),
            pairs + (None,), pairs + ((),), tuple(list(pair) for pair in pairs), tuple(pair + ((),) for pair in pairs),
            tuple(pair[:1] for pair in pairs), tuple(pair[::-1] for pair in pairs), tuple(pair[0] for pair in pairs),
            tuple((list(first), second) for first, second in pairs),
            tuple((first, list(second)) for first, second in pairs),
            tuple((tuple(bool(step) for step in first), second) for first, second in pairs),
            tuple((first, tuple(bool(step) for step in second)) for first, second in pairs),
            pairs + (((1, 1, 2), (1, 1, 1)),), pairs + (((1, 1, 1), (2, 0, 0)),), "alike", None, 0, True, str(pairs),
        ]
        for wrong in wrongs:
            self.no(shows_parted(one, other, ("alike", wrong)), wrong)
        for kind in ("apart", "Alike", "", None, True, ["alike"], ("alike",)):
            self.no(shows_parted(one, other, (kind, pairs)), kind)

    def test_words(self):
        one, other = COUNTER, (HALVES, (0, 0, 1), (0,))
        for many in range(30):
            self.assertIs(shows_parted(one, other, ("apart", (0,) * many)), many >= 4, many)
        self.yes(shows_parted(one, other, ("apart", (0,) * 3000)))
        for teller in tellers(93, 60):
            for twin in list(with_an_end_less(teller))[:6]:
                for word in all_words(len(teller[2]), 4):
                    differ = told_one_by_one(teller, word) != told_one_by_one(twin, word)
                    self.assertIs(shows_parted(teller, twin, ("apart", word)), differ, (teller, twin, word))

    def test_words_otherwise(self):
        one, other = WALKER, (WALK, (1, 0, 0), (0, 1, 2))
        self.yes(shows_parted(one, other, ("apart", (2,))))
        self.yes(shows_parted(one, other, ("apart", (0, 0, 2, 1, 1))))
        wrongs = (
            [2], (3,), (2, 3), (2, -1), (2, None), (2, True), (False, 2), (2, "0"), ((2,),), ([2],), "2", 2, None,
            {2: 2}, (), {}, (2, (0,)),
        )
        for wrong in wrongs:
            self.no(shows_parted(one, other, ("apart", wrong)), wrong)
        for kind in ("alike", "Apart", "", None, True, ["apart"], ("apart",)):
            self.no(shows_parted(one, other, (kind, (2,))), kind)
        # The cups are alike as yet.
        self.no(shows_parted(WALKER, WALKER, ("apart", (0, 1, 2) * 20)))

    def test_parts(self):
        for one, other in ((WALKER, WALKER), (WALKER, (WALK, (1, 0, 0), (0, 1, 2)))):
            answer = parted(one, other)
            self.yes(shows_parted(one, other, answer))
            things = (
                answer[:1], answer[1:], answer[::-1], answer + ((),), answer * 2, list(answer), (answer,), answer[1],
                answer[0], dict([answer]), (),
            )
            for thing in things:
                self.no(shows_parted(one, other, thing), thing)

    def test_anything(self):
        for thing in ANYTHING:
            for other in (WALKER, (WALK, (1, 0, 0), (0, 1, 2))):
                self.no(shows_parted(WALKER, other, thing), thing)
                self.no(shows_parted(WALKER, other, ("alike", thing)), thing)
                self.no(shows_parted(WALKER, other, ("apart", thing)), thing)

    def test_just_one_of_the_kinds(self):
        for one, other in zip(tellers(94, 200), tellers(95, 200)):
            if len(one[2]) == len(other[2]) and one[0][1] == other[0][1]:
                alike = parted(one, other)[0] == "alike"
                reached = tuple(sorted(pairs_reached(one, other)))
                self.assertIs(shows_parted(one, other, ("alike", reached)), alike)
                words = list(all_words(len(one[2]), 4))
                apart = [word for word in words if shows_parted(one, other, ("apart", word))]
                self.assertFalse(alike and apart)


class OneTest(Told):
    """[5]: what a teller tells by words adds up to what drops give at once."""

    def test_by_words_and_at_once(self):
        rng = random.Random(96)
        for board, stand, mouths in tellers(97, 60):
            word = tuple(rng.randrange(len(mouths)) for drop in range(18))
            drops = tuple(sum(mouths[place] == wheel for place in word) for wheel in range(len(stand)))
            cups = (0,) * board[1]
            for gains in told((board, stand, mouths), word):
                cups = added(cups, gains)
            self.assertEqual(cups, dropped(board, stand, drops)[2])

    def test_what_keeps_is_no_teller(self):
        for board in (EVER, ROUND):
            self.no(is_teller((board, (0,) * len(board[0]), (0,))))


if __name__ == "__main__":
    unittest.main()
