"""The interface: `watertaps.plant.answers(calls)`."""

import io
import unittest
from contextlib import redirect_stdout

import watertaps.plant
from tests.helper import (
    EXCHANGE, HIGHEST, LOOK, LOWEST, RENEW, SUMS, TEST, ahead, batch, brine, cell, dose, drain, draw, drawn, flat,
    intake, lay, loop, since, split_answers, tick, water, who,
)
from watertaps.plant import answers

LINE = flat([
    TEST, lay(), lay(), intake(25, 4, 3, 7), intake(16, 1, 5, 2), intake(HIGHEST, LOWEST), TEST, tick(1), loop(1),
    tick(2), draw(0, 3), draw(3, 3), dose(2), draw(0, 3), brine(100), RENEW, brine(500), RENEW, LOOK, EXCHANGE,
    tick(1), water(0), cell(1), batch(1), batch(3), who(2), drawn(1), since(3), SUMS, ahead(2), ahead(0), drain(2, 1),
    drain(1, 99), water(1),
])
ANSWERED = [
    1, -2, 1, 0, 1, -3, 1, 1, 1, 2, 1, -1, 1, 1, 3, 1, 0, 3, 1, 0,
    # Gulps of 56 and of 57 hardness, 75 and 76 chlorine. The turns: 30 millilitres (19 and 11), of which 10
    # are 7 and 3; then 20 (12 and 8), of which 10 are 6 and 4; of these 3 are 1.8 and 1.2, so 2 and 1.
    3, 1, 3, 3, 6, 1, 2, 1, 2, 2, 1, 1, -1, 1, 0, 1, -9, 1, 100, 1, -7, 1, 600, 2, 113, 487,
    13, 3, 10000, 9848, 10000, 0, 487, 1, 0, 2, 1, 3, 1, 0,
    # The third turn leaves nothing in the store: its 10 millilitres have 8 salt and 2 disinfectant.
    2, 9848, 10000, 3, 0, 1, 0,
    8, 1, 3, 4, 6, 0, 1, 2, 1, 10, 7, 0, 0, 5, 0, 2, 1, 4, 2, 3, 6, 25, 0, 0, 17, 2, 6, 1, -10, 3, 1, 1, 1,
    12, 0, 3, 3, 0, 0, 2, 0, 2, 1, 2, 2, 1, 2, 1, 1,
    28, 116, 3, 0, 0, 0, 0, 155, 4, 0, 0, 0, 0, 207, 6, 0, 20, 2, 292, 0, 0, 0, 2, 0, 0, 151, 1, 113, 2,
    3, 0, 1, 2, 1, -1, 1, 27, 1, 0, 6, 0, 0, 0, 0, 0, 0,
]


class Interface(unittest.TestCase):
    maxDiff = None

    def test_counts_and_answers_one_behind_another(self):
        self.assertEqual(answers(LINE), ANSWERED)

    def test_one_call(self):
        self.assertEqual(answers(lay()), [1, 0])
        self.assertEqual(answers(TEST), [1, -2])

    def test_the_name_in_its_module(self):
        self.assertEqual(watertaps.plant.answers(calls=lay()), [1, 0])

    def test_a_list_of_whole_numbers(self):
        answered = answers(LINE)
        self.assertIs(type(answered), list)
        self.assertEqual({type(number) for number in answered}, {int})

    def test_what_is_handed_in_stays_as_it_was(self):
        calls = list(LINE)
        answers(calls)
        self.assertEqual(calls, LINE)

    def test_what_is_handed_in_is_never_written_to(self):
        class Sealed(list):
            def refuse(self, *arguments, **named):
                raise AssertionError("the list that was handed in is changed")

            append = extend = insert = pop = remove = clear = sort = reverse = refuse
            __setitem__ = __delitem__ = __iadd__ = __imul__ = refuse

        self.assertEqual(answers(Sealed(LINE)), ANSWERED)

    def test_nothing_is_kept_from_one_time_to_the_next(self):
        once = answers(LINE)
        once.clear()
        self.assertEqual(answers(LINE), ANSWERED)
        self.assertEqual(answers(TEST), [1, -2])
        self.assertEqual(answers(LINE), ANSWERED)

    def test_prints_nothing(self):
        printed = io.StringIO()
        with redirect_stdout(printed):
            answers(LINE)
        self.assertEqual(printed.getvalue(), "")

    def test_400_calls(self):
        self.assertEqual(answers(lay() + brine(1) * 399), flat([[1, number] for number in range(400)]))
        self.assertEqual(answers(lay() * 400), [1, 0] + [1, -3] * 399)

    def test_arguments_from_end_to_end_of_their_kind(self):
        for number in (LOWEST, HIGHEST):
            calls = [[0] + [number] * 12, intake(number, number, number, number), tick(number), brine(number),
                     loop(number), dose(number), draw(number, number), drain(number, number), water(number),
                     cell(number), batch(number), who(number), drawn(number), since(number), ahead(number)]
            self.assertEqual(answers(flat([lay()] + calls)), [1, 0] + [1, -1] * 15)
            self.assertEqual(answers(flat(calls)), [1, -1] + [1, -2] * 14)

    def test_no_such_call(self):
        self.assertEqual(answers(lay() + [20]), [1, 0, 1, -100])
        self.assertEqual(answers(lay() + [21, 3, 3]), [1, 0, 1, -100])
        self.assertEqual(answers(lay() + [-1, 3]), [1, 0, 1, -100])
        self.assertEqual(answers([LOWEST]), [1, -100])

    def test_each_call_has_its_own_count_of_numbers(self):
        counts = (12, 4, 1, 0, 0, 0, 1, 1, 1, 2, 2, 0, 1, 1, 1, 1, 1, 1, 0, 1)
        for place, arguments in enumerate(counts):
            answered = split_answers(answers(lay() + [place] + [1] * arguments + brine(7)))
            self.assertEqual(len(answered), 3, place)
            self.assertNotEqual(answered[1], [-100], place)
            self.assertEqual(answered[2][0] % 10, 8 if place == 6 else 7, place)

    def test_too_few_numbers(self):
        self.assertEqual(answers(lay()[:-1]), [1, -100])
        self.assertEqual(answers([2]), [1, -100])
        self.assertEqual(answers(lay() + TEST + [9, 0]), [1, 0, 1, 1, 1, -100])
