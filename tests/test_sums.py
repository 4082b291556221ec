"""Point 18, sums."""

from tests.helper import (
    EXCHANGE, RENEW, SUMS, TEST, PlantCase, ask_on, brine, busy_plant, dose, drain, draw, intake, last, lay, loop,
    plant_after, tick,
)

SPREAD = [
    lay(), intake(25, 4, 3, 7), intake(16, 1, 5, 2), TEST, tick(1), loop(1), tick(2), draw(0, 3), dose(2),
]
NONE = [0, 0, 0, 0, 0, 0]


class Sums(PlantCase):
    def test_a_plant_that_was_just_laid(self):
        self.assert_told(plant_after(lay()), SUMS, [0] * 28)

    def test_what_came_in(self):
        plant = plant_after(lay(), intake(25, 4, 3, 7), intake(16, 1, 5, 2))
        self.assert_told(plant, SUMS, [
            116, 116, 0, 0, 0, 0,
            155, 155, 0, 0, 0, 0,
            207, 207, 0, 0, 0, 0,
        ] + NONE + [0, 0, 0, 0])

    def test_all_twenty_eight(self):
        # Of 320 salt 22 went through: 7 and 7 came to the loop, and 2 of the first cell's were drawn.
        plant = plant_after(*SPREAD)
        self.assert_told(plant, SUMS, [
            116, 3, 0, 0, 0, 0,
            155, 4, 0, 0, 0, 0,
            207, 6, 8, 12, 2, 292,
            0, 0, 2, 0, 0, 0,
            151, 1, 113, 2,
        ])

    def test_hardness_and_chlorine_that_are_drained(self):
        plant = plant_after(*SPREAD, drain(0, 1))
        self.assert_told(plant, SUMS, [
            116, 0, 0, 0, 0, 3,
            155, 0, 0, 0, 0, 4,
            207, 0, 8, 12, 2, 298,
            0, 0, 2, 0, 0, 0,
            151, 1, 113, 2,
        ])

    def test_disinfectant_in_the_store_in_the_loop_and_drained(self):
        calls = [lay(back=0), intake(20, 0, 0, 5), TEST, tick(1), dose(3), loop(1), tick(1)]
        self.assertEqual(last(*calls, SUMS)[18:], [0, 0, 1, 2, 0, 0] + [0, 1, 0, 3])
        self.assertEqual(last(*calls, drain(1, 5), SUMS)[18:], [0, 0, 0, 2, 0, 1] + [0, 1, 0, 3])
        self.assertEqual(last(*calls, drain(1, 5), drain(2, 1), SUMS)[18:], [0, 0, 0, 0, 0, 3] + [0, 1, 0, 3])
        self.assertEqual(last(*calls, dose(1000), SUMS)[18:], [0, 0, 1001, 2, 0, 0] + [0, 1, 0, 1003])

    def test_salt_of_several_cells_and_draws(self):
        calls = [lay(back=0), intake(60, 0, 0, 5), TEST, loop(1), tick(3)]
        self.assertEqual(last(*calls, SUMS)[12:18], [300, 0, 75, 150, 0, 75])
        self.assertEqual(last(*calls, draw(0, 4), draw(2, 6), SUMS)[12:18], [300, 0, 75, 100, 50, 75])

    def test_chlorine_that_both_filters_took(self):
        calls = [lay(gulp=10, holds=2, carbon=200), intake(1000, 0, 10), TEST, tick(2)]
        self.assertEqual(last(*calls, SUMS)[6:12], [10000, 9800, 0, 0, 0, 0])
        self.assertEqual(last(*calls, SUMS)[24:], [200, 1, 0, 0])

    def test_doses_that_could_not_be_taken_do_not_count(self):
        worn = [lay(gulp=10, holds=2, carbon=200), intake(1000, 0, 10), TEST, tick(2), TEST]
        self.assertEqual(last(*worn, SUMS)[24:], [200, 1, 0, 0])
        self.assertEqual(last(*worn, EXCHANGE, TEST, TEST, SUMS)[24:], [200, 3, 0, 0])

    def test_hardness_taken_stays_behind_renew(self):
        calls = [*SPREAD, brine(1000), RENEW]
        self.assertEqual(last(*calls, SUMS)[24:], [151, 1, 113, 2])

    def test_a_batch_that_was_refused_did_not_come_in(self):
        self.assertEqual(last(lay(), intake(1001, 1, 1, 1), SUMS), [0] * 28)

    def test_changes_nothing(self):
        plant = busy_plant()
        self.assert_told(plant, SUMS, ask_on(plant, SUMS)[0])
