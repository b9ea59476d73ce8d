"""Points 11 and 12: translators, the words that they take and the words that they write."""

import random
import unittest

from anychain.errors import InvalidTranslator
from anychain.translators import check_translator, taken_words, translate, written_words
from tests import making, slow
from tests.helpers import ODD_VALUES, ask, error_of, only_plain, spoilt

CODER = (1, 2, (), ((((0, 0, 1), 0),),), ((),))
READER = (2, 1, (), ((((), 0), ((0,), 0)),), ((),))
# It writes 2 first, doubles zeros, refuses two ones side by side, and ends with 2 1 behind a one.
DOUBLE = (2, 3, (2,), ((((0, 0), 0), ((1,), 1)), (((0, 0), 0), None)), ((), (2, 1)))


def one_state(ins, outs, written=(), prefix=(), ending=()):
    return (ins, outs, prefix, (((written, 0),) * ins,), (ending,))


class CheckTranslator(unittest.TestCase):
    def agrees(self, translator):
        expected = None if slow.is_translator(translator) else InvalidTranslator
        self.assertIs(error_of(check_translator, translator), expected, translator)

    def valid(self, translator):
        self.assertIs(error_of(check_translator, translator), None)

    def invalid(self, translator):
        self.assertIs(error_of(check_translator, translator), InvalidTranslator)

    def test_ordinary_translators(self):
        for translator in (CODER, READER, DOUBLE):
            self.valid(translator)

    def test_numbers_of_signs(self):
        for signs in range(-2, 33):
            right = 1 <= signs <= 30
            (self.valid if right else self.invalid)((1, signs, (), (((((0,), 0)),),), ((),)))
            (self.valid if right else self.invalid)((signs, 1, (), ((None,) * max(0, signs),), (None,)))
        self.invalid((2, 1, (), ((None,),), ((),)))
        self.invalid((2, 1, (), ((None,) * 3,), ((),)))

    def test_signs_of_the_written_words(self):
        for sign in (-1, 0, 29, 30, 10 ** 30):
            right = 0 <= sign < 30
            for place in ("written", "prefix", "ending"):
                (self.valid if right else self.invalid)(one_state(2, 30, **{place: (0, sign)}))
        self.invalid(one_state(30, 1, written=(1,)))

    def test_lengths_of_the_written_words(self):
        for length in range(9):
            for place in ("written", "prefix", "ending"):
                (self.valid if length <= 6 else self.invalid)(one_state(2, 2, **{place: (1,) * length}))

    def test_numbers_of_states(self):
        for states in range(15):
            right = 1 <= states <= 12
            (self.valid if right else self.invalid)((1, 1, (), (((((0,), 0)),),) * states, (None,) * states))
            if states > 0:
                last = (1, 1, (), ((((0,), states - 1),),) * states, ((),) * states)
                (self.valid if right else self.invalid)(last)
                self.invalid((1, 1, (), ((((0,), states),),) * states, ((),) * states))
                self.invalid((1, 1, (), ((None,),) * states, ((),) * (states - 1)))
                self.invalid((1, 1, (), ((None,),) * states, ((),) * (states + 1)))
        self.invalid((1, 1, (), ((((0,), -1),),), ((),)))

    def test_none_as_moves_and_endings(self):
        self.valid((2, 2, (), ((None, None),), (None,)))
        self.invalid((2, 2, None, ((None, None),), (None,)))
        self.invalid((2, 2, (), (None,), (None,)))
        self.invalid((2, 2, (), None, (None,)))
        self.invalid((2, 2, (), ((None, None),), None))
        self.invalid((2, 2, (), (((None, 0), None),), (None,)))
        self.invalid((2, 2, (), ((((), None), None),), (None,)))

    def test_true_is_no_integer(self):
        self.invalid((True, 1, (), ((None,),), (None,)))
        self.invalid((1, True, (), ((None,),), (None,)))
        for place in ("written", "prefix", "ending"):
            self.invalid(one_state(2, 2, **{place: (True,)}))
            self.invalid(one_state(2, 2, **{place: (0, False)}))
        self.invalid((1, 1, (), ((((0,), False),),), (None,)))
        self.invalid((1, 1, (), ((True,),), (None,)))
        self.invalid((1, 1, (), ((None,),), (False,)))

    def test_any_value_in_any_place(self):
        for odd in ODD_VALUES:
            self.agrees((odd,) * 5)
            for other in ODD_VALUES:
                self.agrees((1, 2, (), odd, other))
                self.agrees((1, 2, (), ((odd,),), (other,)))
                self.agrees((1, 2, (), (((odd, other),),), ((),)))
        for translator in (CODER, READER, DOUBLE):
            for value in spoilt(translator):
                self.agrees(value)

    def test_many_translators(self):
        rng = random.Random(111)
        for _ in range(300):
            translator = making.translator(rng, rng.randint(1, 4), rng.randint(1, 4), rng.randint(1, 13), 7, 0.3)
            self.agrees(translator)
            self.agrees(translator[:1] + (translator[1] - 1,) + translator[2:])


class Translate(unittest.TestCase):
    def test_ordinary_words(self):
        self.assertEqual(ask(translate, CODER, (0, 0)), (0, 0, 1, 0, 0, 1))
        self.assertEqual(ask(translate, READER, (0, 0, 1, 0, 0, 1)), (0, 0))
        self.assertEqual(ask(translate, DOUBLE, (0, 1)), (2, 0, 0, 1, 2, 1))
        self.assertEqual(ask(translate, DOUBLE, (1, 0)), (2, 1, 0, 0))

    def test_the_empty_word(self):
        self.assertEqual(ask(translate, CODER, ()), ())
        self.assertEqual(ask(translate, DOUBLE, ()), (2,))
        self.assertEqual(ask(translate, one_state(1, 2, prefix=(0, 1), ending=(1, 0)), ()), (0, 1, 1, 0))
        self.assertIs(ask(translate, one_state(1, 2, prefix=(0, 1), ending=None), ()), None)

    def test_refused_words(self):
        self.assertIs(ask(translate, DOUBLE, (1, 1)), None)
        self.assertIs(ask(translate, DOUBLE, (0, 1, 1, 0)), None)
        self.assertIs(ask(translate, (1, 1, (0,), ((None,),), ((),)), (0,)), None)
        self.assertEqual(ask(translate, (1, 1, (0,), ((None,),), ((),)), ()), (0,))

    def test_a_word_that_writes_nothing_is_not_refused(self):
        self.assertEqual(ask(translate, READER, (0, 0)), ())

    def test_many_words(self):
        rng = random.Random(112)
        for _ in range(200):
            translator = making.translator(rng, 2, 3, rng.randint(1, 5), 6, 0.2)
            for word in slow.all_words(2, 5):
                told = ask(translate, translator, word)
                self.assertEqual(told, slow.translate(translator, word))
                self.assertTrue(only_plain(told))

    def test_a_long_word(self):
        self.assertEqual(translate(CODER, (0,) * 50000), (0, 0, 1) * 50000)


class Machines(unittest.TestCase):
    def holds(self, translator, length=6):
        """Compare both machines of a translator with a slow reckoning."""
        taken, written = ask(taken_words, translator), ask(written_words, translator)
        self.assertEqual((taken[0], written[0]), (translator[0], translator[1]))
        for machine in (taken, written):
            self.assertTrue(only_plain(machine))
            self.assertTrue(slow.is_machine(machine))
        for word in slow.all_words(translator[0], length):
            letter = slow.translate(translator, word)
            self.assertIs(slow.takes(taken, word), letter is not None)
            self.assertTrue(letter is None or slow.takes(written, letter))
        for word in slow.all_words(translator[1], length):
            self.assertIs(slow.takes(written, word), slow.is_translation(translator, word))
        return taken, written

    def test_ordinary_translators(self):
        self.assertEqual(self.holds(CODER), ((1, (0,), ((0,),)), (2, (0,), ((1, -1), (2, -1), (-1, 0)))))
        self.assertEqual(self.holds(READER), ((2, (0,), ((0, 0),)), (1, (0,), ((0,),))))
        self.holds(DOUBLE, 7)

    def test_translators_that_refuse_all_or_nearly_all(self):
        nothing = ((2, (), ()), (3, (), ()))
        self.assertEqual(self.holds((2, 3, (1,), ((((2,), 0), None),), (None,))), nothing)
        self.assertEqual(self.holds((2, 3, (1,), ((((2,), 0), None), (None, None)), (None, (0,)))), nothing)
        only_empty = ((2, (0,), ((-1, -1),)), (3, (2,), ((-1, 1, -1), (2, -1, -1), (-1, -1, -1))))
        self.assertEqual(self.holds((2, 3, (1,), ((None, None),), ((0,),))), only_empty)

    def test_translators_that_write_nothing(self):
        self.assertEqual(self.holds(one_state(2, 2))[1], (2, (0,), ((-1, -1),)))
        self.assertEqual(self.holds(one_state(1, 1, (0,)))[1], (1, (0,), ((0,),)))

    def test_words_of_six_signs(self):
        translator = (2, 2, (1, 0, 1, 0, 1, 0), ((((0, 1, 1, 0, 0, 1), 1), None), (None, ((1,) * 6, 0))),
                      ((0,) * 6, (1, 1, 0, 0, 1, 1)))
        taken, written = self.holds(translator)
        for word in ((), (0,), (0, 1), (0, 1, 0)):
            self.assertTrue(slow.takes(written, slow.translate(translator, word)))
        self.assertIs(slow.takes(taken, (1,)), False)

    def test_twelve_states(self):
        rng = random.Random(121)
        for _ in range(20):
            self.holds(making.translator(rng, 2, 2, 12, 6, 0.2), 5)
        for _ in range(5):
            translator = making.translator(rng, 30, 30, 12, 6, 0.5)
            taken, written = ask(taken_words, translator), ask(written_words, translator)
            for _ in range(500):
                word = making.word(rng, 30, 0, 3)
                letter = slow.translate(translator, word)
                self.assertIs(slow.takes(taken, word), letter is not None)
                self.assertTrue(letter is None or slow.takes(written, letter))

    def test_many_translators(self):
        rng = random.Random(122)
        for _ in range(250):
            self.holds(making.translator(rng, rng.randint(1, 2), rng.randint(1, 3), rng.randint(1, 4), 3, 0.3), 5)


if __name__ == "__main__":
    unittest.main()
