"""[90] faults."""

import itertools
import random
import unittest

from marblefall.errors import NoFault, NoSeen, NoWord, TooMany
from marblefall.faults import all_faults, fitting, is_fault, parting, with_fault
from marblefall.tellers import is_teller, parted, shows_parted, told
from tests.things import (
    ANYTHING, DRAINING, HALVES, LEAST, STANDS_648, TURNS, WALK, Told, all_words, some_boards, some_teller,
    told_one_by_one, with_part,
)

WALKER = (WALK, (0, 0, 0), (0, 1, 2))
COUNTER = (HALVES, (1, 0, 1), (0,))
# A cup and a wheel that stand in no step, steps without ends, an end twice in a step and in steps of both wheels.
ODD = (((((1, 3, 3), (), (3,)), ((), (3, 2))), 3), (2, 0), (0, 1))

SMALL = (HALVES, WALK, TURNS, ODD[0]) + tuple(some_boards(90, 8, "drains", most_wheels=4, most_stands=36))


def tellers(seed, many, boards=SMALL):
    """Tellers by chance, always the same."""
    rng = random.Random(seed)
    return [some_teller(rng, rng.choice(boards)) for again in range(many)] + [WALKER, COUNTER, ODD]


def faults_by_words(teller):
    """All faults, as the document words them."""
    (wheels, cups), stand, mouths = teller
    ends = {end for steps in wheels for step in steps for end in step}
    numbers = [(wheel, step) for wheel, steps in enumerate(wheels) for step in range(len(steps))]
    found = [None]
    found += [("lame", wheel, step) for wheel, step in numbers if len(wheels[wheel][step]) > 0]
    found += [("blocked", end) for end in range(len(wheels) + cups) if end in ends]
    found += [("off", wheel, step) for wheel, step in numbers if stand[wheel] != step]
    return tuple(found)


def broken(teller, fault):
    """The teller with the fault, as the document words it."""
    (wheels, cups), stand, mouths = teller
    rows = [[list(step) for step in steps] for steps in wheels]
    steps_at = list(stand)
    match fault:
        case ("lame", wheel, step):
            rows[wheel][step].clear()
        case ("blocked", end):
            for step in itertools.chain(*rows):
                while end in step:
                    step.remove(end)
        case ("off", wheel, step):
            steps_at[wheel] = step
    return (tuple(tuple(tuple(step) for step in steps) for steps in rows), cups), tuple(steps_at), mouths


class AllFaultsTest(Told):
    def test_told_by_hand(self):
        self.assertEqual(all_faults((LEAST, (0,), (0,))), (None,))
        self.assertEqual(all_faults(COUNTER), (
            None, ("lame", 0, 1), ("lame", 1, 1), ("lame", 2, 1), ("blocked", 1), ("blocked", 2), ("blocked", 3),
            ("off", 0, 0), ("off", 1, 1), ("off", 2, 0),
        ))
        self.assertEqual(all_faults(ODD), (
            None, ("lame", 0, 0), ("lame", 0, 2), ("lame", 1, 1), ("blocked", 1), ("blocked", 2), ("blocked", 3),
            ("off", 0, 0), ("off", 0, 1), ("off", 1, 1),
        ))

    def test_the_words(self):
        rng = random.Random(91)
        for teller in tellers(92, 100) + [some_teller(rng, board) for board in DRAINING]:
            self.assertEqual(all_faults(teller), faults_by_words(teller), teller)

    def test_in_order(self):
        for teller in tellers(93, 60):
            faults = all_faults(teller)
            self.assertIs(type(faults), tuple)
            self.assertIs(faults[0], None)
            kinds = [fault[0] for fault in faults[1:]]
            self.assertEqual(kinds, sorted(kinds, key=("lame", "blocked", "off").index))
            for kind in ("lame", "blocked", "off"):
                of_kind = [fault for fault in faults[1:] if fault[0] == kind]
                self.assertTrue(all(one < other for one, other in zip(of_kind, of_kind[1:])))


class IsFaultTest(Told):
    def test_each_of_them(self):
        for teller in tellers(94, 60):
            for fault in all_faults(teller):
                self.yes(is_fault(teller, fault), (teller, fault))

    def test_all_near_them(self):
        answers = {True: 0, False: 0}
        for teller in tellers(95, 25):
            faults = faults_by_words(teller)
            numbers = range(-1, 9)
            for kind in ("lame", "blocked", "off", "Lame", ""):
                near = [(kind,)] + [(kind, one) for one in numbers]
                near += [(kind, one, other) for one in numbers for other in range(-1, 5)]
                for thing in near:
                    answer = is_fault(teller, thing)
                    self.assertIs(answer, thing in faults, (teller, thing))
                    answers[answer] += 1
        self.assertGreater(min(answers.values()), 200)

    def test_told_by_hand(self):
        self.no(is_fault(ODD, ("lame", 0, 1)))
        self.no(is_fault(ODD, ("lame", 1, 0)))
        self.no(is_fault(ODD, ("blocked", 0)))
        self.no(is_fault(ODD, ("blocked", 4)))
        self.no(is_fault(ODD, ("blocked", 5)))
        self.no(is_fault(ODD, ("off", 0, 2)))
        self.no(is_fault(ODD, ("off", 1, 0)))
        self.no(is_fault(ODD, ("off", 0, 3)))
        self.no(is_fault(ODD, ("off", 2, 0)))
        self.yes(is_fault(ODD, None))

    def test_truths_lists_and_others_as_parts(self):
        for teller in (WALKER, COUNTER, ODD):
            for fault in all_faults(teller)[1:]:
                self.no(is_fault(teller, list(fault)))
                self.no(is_fault(teller, fault[:-1]))
                self.no(is_fault(teller, fault[1:]))
                self.no(is_fault(teller, fault + (0,)))
                self.no(is_fault(teller, fault + (None,)))
                self.no(is_fault(teller, fault * 2))
                self.no(is_fault(teller, (fault,)))
                self.no(is_fault(teller, (fault[0], fault[1:])))
                self.no(is_fault(teller, str(fault)))
                for at in range(len(fault)):
                    for wrong in (True, False, None, -1, 9, "0", (), [], [0], {}, fault[at:at + 1], 9999999999999):
                        self.no(is_fault(teller, with_part(fault, (at,), wrong)), (fault, at, wrong))

    def test_anything(self):
        for thing in ANYTHING:
            self.assertIs(is_fault(WALKER, thing), thing is None, thing)


class WithFaultTest(Told):
    def test_told_by_hand(self):
        (wheels, cups), stand, mouths = ODD
        told_so = {
            None: ODD,
            ("lame", 0, 0): (((((), (), (3,)), ((), (3, 2))), 3), stand, mouths),
            ("lame", 1, 1): (((((1, 3, 3), (), (3,)), ((), ())), 3), stand, mouths),
            ("blocked", 1): (((((3, 3), (), (3,)), ((), (3, 2))), 3), stand, mouths),
            ("blocked", 3): (((((1,), (), ()), ((), (2,))), 3), stand, mouths),
            ("off", 0, 1): (ODD[0], (1, 0), mouths),
            ("off", 1, 1): (ODD[0], (2, 1), mouths),
        }
        for fault, teller in told_so.items():
            self.assertEqual(with_fault(ODD, fault), teller, fault)

    def test_each(self):
        for teller in tellers(96, 80):
            for fault in all_faults(teller):
                other = with_fault(teller, fault)
                self.yes(is_teller(other), (teller, fault))
                self.assertEqual(other, broken(teller, fault), (teller, fault))
                self.assertEqual(other == teller, fault is None, (teller, fault))
                # A fault is one no more where it is there already, but None.
                self.assertIs(is_fault(other, fault), fault is None, (teller, fault))

    def test_no_fault(self):
        for thing in ANYTHING + (("lame", 0, 1, 0), ("off", 0, 0), ("blocked", 5), ["off", 0, 1], ("off", 0, True)):
            if thing is not None:
                self.assertRaises(NoFault, with_fault, WALKER, thing)


class FittingTest(Told):
    def by_words(self, teller, word, seen):
        return tuple(
            fault for fault in faults_by_words(teller) if told_one_by_one(broken(teller, fault), word) == seen
        )

    def test_told_by_hand(self):
        fork = (((((1,), (2,)),), 2), (0,), (0,))
        self.assertEqual(all_faults(fork), (
            None, ("lame", 0, 0), ("lame", 0, 1), ("blocked", 1), ("blocked", 2), ("off", 0, 1),
        ))
        self.assertEqual(fitting(fork, (0, 0), ((1, 0), (0, 1))), (None,))
        self.assertEqual(fitting(fork, (0, 0), ((0, 0), (0, 1))), (("lame", 0, 0), ("blocked", 1)))
        self.assertEqual(fitting(fork, (0, 0), ((1, 0), (0, 0))), (("lame", 0, 1), ("blocked", 2)))
        self.assertEqual(fitting(fork, (0, 0), ((0, 1), (1, 0))), (("off", 0, 1),))
        self.assertEqual(fitting(fork, (0,), ((1, 0),)), (None, ("lame", 0, 1), ("blocked", 2)))
        self.assertEqual(fitting(fork, (0, 0), ((0, 0), (0, 0))), ())
        self.assertEqual(fitting(fork, (0,), ((9999999999999, 1),)), ())

    def test_the_empty_word_fits_all(self):
        for teller in tellers(97, 40):
            self.assertEqual(fitting(teller, (), ()), all_faults(teller))

    def test_what_the_teller_itself_tells(self):
        rng = random.Random(98)
        for teller in tellers(99, 40):
            word = tuple(rng.randrange(len(teller[2])) for drop in range(rng.choice((1, 3, 9))))
            faults = fitting(teller, word, told(teller, word))
            self.assertEqual(faults, self.by_words(teller, word, told_one_by_one(teller, word)), (teller, word))
            self.assertIs(faults[0], None)

    def test_what_it_tells_with_a_fault(self):
        rng = random.Random(100)
        several = 0
        for teller in tellers(101, 30):
            for fault in all_faults(teller):
                word = tuple(rng.randrange(len(teller[2])) for drop in range(rng.choice((2, 8))))
                seen = told(with_fault(teller, fault), word)
                faults = fitting(teller, word, seen)
                self.assertEqual(faults, self.by_words(teller, word, seen), (teller, fault, word))
                self.assertIn(fault, faults)
                several += len(faults) > 1
        self.assertGreater(several, 30)

    def test_what_no_fault_tells(self):
        for teller in tellers(102, 40):
            if teller[0][1] > 0:
                for word in ((0,), (0, 0, 0)):
                    seen = told(teller, word)[:-1] + ((7777,) * teller[0][1],)
                    self.assertEqual(fitting(teller, word, seen), ())

    def test_without_cups_all_fit(self):
        teller = (((((1,), ()), ((), (0,))), 0), (0, 1), (0, 1))
        self.assertEqual(fitting(teller, (0, 1, 1), ((), (), ())), all_faults(teller))
        self.assertRaises(NoSeen, fitting, teller, (0, 1, 1), ())
        self.assertRaises(NoSeen, fitting, teller, (0, 1, 1), ((), (), (0,)))

    def test_more_than_600_stands(self):
        teller = (STANDS_648, (1, 2, 0, 1, 3, 0), (0, 3, 5))
        word = (0, 1, 2, 2, 1, 0) * 3
        for fault in all_faults(teller)[::4]:
            seen = told(with_fault(teller, fault), word)
            self.assertEqual(fitting(teller, word, seen), self.by_words(teller, word, seen))

    def test_no_seen(self):
        word = (0, 1, 2)
        right = told(WALKER, word)
        self.assertIn(None, fitting(WALKER, word, right))
        wrongs = [
            right[:-1], right[1:], right + ((0, 0),), right * 2, (), list(right), (right,), ((0, 0),), ((0, 0),) * 4,
            tuple(list(cups) for cups in right), dict(enumerate(right)), str(right), right[0],
        ]
        for at in range(3):
            for cups in ((0,), (), (0, 0, 0), (0, -1), (-1, 0), (True, 0), (0, False), (0, None), [0, 0], None, 0, "00",
                         (0, "0"), ((0,), 0), {0: 0, 1: 0}, ([], 0)):
                wrongs.append(with_part(right, (at,), cups))
        for seen in wrongs + list(ANYTHING):
            self.assertRaises(NoSeen, fitting, WALKER, word, seen)
        for seen in ANYTHING:
            if seen != ():
                self.assertRaises(NoSeen, fitting, WALKER, (), seen)

    def test_no_word_ahead_of_no_seen(self):
        for word in ((3,), (True,), [0], None, "0", (0, -1)):
            for seen in ((), ((0, 0),), None, [(0, 0)], ((0, True),)):
                self.assertRaises(NoWord, fitting, WALKER, word, seen)


class PartingTest(Told):
    def test_told_by_hand(self):
        fork = (((((1,), (2,)),), 2), (0,), (0,))
        self.assertEqual(parting(fork, None, ("lame", 0, 1)), ("apart", (0, 0)))
        self.assertEqual(parting(fork, ("lame", 0, 1), None), ("apart", (0, 0)))
        self.assertEqual(parting(fork, None, ("off", 0, 1)), ("apart", (0,)))
        # They make the same of it.
        self.assertEqual(
            parting(fork, ("lame", 0, 1), ("blocked", 2)), ("alike", (((0,), (0,)), ((1,), (1,)))),
        )
        # The stand of an off one is the one at which its wheel is by the fault.
        still = (((((), ()),), 0), (0,), (0,))
        self.assertEqual(parting(still, None, ("off", 0, 1)), ("alike", (((0,), (1,)), ((1,), (0,)))))
        self.assertEqual(parting(still, ("off", 0, 1), None), ("alike", (((0,), (1,)), ((1,), (0,)))))

    def test_what_parted_tells(self):
        kinds = {"alike": 0, "apart": 0}
        for teller in tellers(103, 25):
            for one, other in itertools.product(all_faults(teller), repeat=2):
                answer = parting(teller, one, other)
                tellers_with = broken(teller, one), broken(teller, other)
                self.assertEqual(answer, parted(*tellers_with), (teller, one, other))
                self.yes(shows_parted(*tellers_with, answer))
                kinds[answer[0]] += 1
        self.assertGreater(min(kinds.values()), 100)

    def test_a_fault_and_itself(self):
        for teller in tellers(104, 20):
            for fault in all_faults(teller):
                kind, pairs = parting(teller, fault, fault)
                self.assertEqual(kind, "alike")
                self.assertIn((with_fault(teller, fault)[1],) * 2, pairs)

    def test_the_word_parts_what_is_seen(self):
        for teller in tellers(105, 15):
            for one, other in itertools.combinations(all_faults(teller), 2):
                kind, word = parting(teller, one, other)
                if kind == "apart":
                    seen = told(with_fault(teller, one), word)
                    faults = fitting(teller, word, seen)
                    self.assertIn(one, faults)
                    self.assertNotIn(other, faults)
                else:
                    for some in all_words(len(teller[2]), 3):
                        faults = fitting(teller, some, told(with_fault(teller, one), some))
                        self.assertEqual(one in faults, other in faults)

    def test_no_fault_of_each(self):
        for thing in ANYTHING:
            if thing is not None:
                self.assertRaises(NoFault, parting, WALKER, thing, None)
                self.assertRaises(NoFault, parting, WALKER, None, thing)
                self.assertRaises(NoFault, parting, WALKER, thing, thing)

    def test_too_many(self):
        many = (((((), (), (), (1,)), ((), (), (2,), ()), ((), (), (0,), (3,))), 1), (0, 0, 0), (0,))
        few = (((((), (), (1,)), ((), (), (2,)), ((), (0,), (3,)), ((), (4,))), 1), (0, 0, 0, 0), (0,))
        self.assertEqual(parting(few, None, None)[0], "alike")
        for one, other in ((None, None), (("lame", 0, 3), ("off", 0, 1)), (("blocked", 3), None)):
            with self.assertRaises(TooMany) as caught:
                parting(many, one, other)
            self.assertEqual((caught.exception.many, caught.exception.most), (64, 60))
        self.assertRaises(NoFault, parting, many, ("lame", 0, 0), None)
        self.assertRaises(NoFault, parting, many, None, ("off", 0, 0))
        # The others don't go through stands.
        self.assertIn(("off", 2, 3), all_faults(many))
        self.assertEqual(with_fault(many, ("off", 2, 3))[1], (0, 0, 3))
        self.assertIn(None, fitting(many, (0,), ((0,),)))


if __name__ == "__main__":
    unittest.main()
