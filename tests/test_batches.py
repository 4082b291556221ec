"""Points 14 and 15, batch and who."""

from tests.helper import (
    HIGHEST, LOWEST, TEST, PlantCase, ask_on, batch, busy_plant, drain, draw, intake, last, lay, loop, plant_after,
    tick, who,
)

# Two gulps and two turns: 13 and 7 millilitres are in the loop, 6 and 4 in the store, 6 and 4 are drained.
SPREAD = [lay(), intake(25, 4, 3, 7), intake(16, 1, 5, 2), TEST, tick(1), loop(1), tick(2)]
# The first cell has 3 millilitres of batch 1 and 7 of batch 2, the second 10 of batch 1.
MIXED = [
    lay(cells=2), intake(20), TEST, tick(1), loop(1), tick(1), loop(0), intake(20), tick(1), loop(1), tick(1),
]


class Batch(PlantCase):
    def test_one_that_just_came_in(self):
        plant = plant_after(lay(), intake(25), intake(16))
        self.assert_told(plant, batch(1), [25, 25, 0, 0, 0, 0])
        self.assert_told(plant, batch(2), [16, 16, 0, 0, 0, 0])

    def test_in_all_places(self):
        plant = plant_after(*SPREAD, draw(0, 3))
        self.assert_told(plant, batch(1), [25, 0, 6, 11, 2, 6])
        self.assert_told(plant, batch(2), [16, 1, 4, 6, 1, 4])

    def test_all_cells_and_all_draws_together(self):
        # The second cell has 7 and 3: of 5 of them 4 and 1.
        plant = plant_after(*SPREAD, draw(0, 3), draw(1, 5))
        self.assert_told(plant, batch(1), [25, 0, 6, 7, 6, 6])
        self.assert_told(plant, batch(2), [16, 1, 4, 5, 2, 4])

    def test_behind_drains(self):
        plant = plant_after(*SPREAD, draw(0, 3), drain(0, 1))
        self.assert_told(plant, batch(2), [16, 0, 4, 6, 1, 5])
        ask_on(plant, drain(2, 1))
        self.assert_told(plant, batch(1), [25, 0, 6, 0, 2, 17])
        ask_on(plant, drain(1, 10))
        self.assert_told(plant, batch(1), [25, 0, 0, 0, 2, 23])
        self.assert_told(plant, batch(2), [16, 0, 0, 0, 1, 15])

    def test_one_that_came_in_behind_all_others(self):
        plant = plant_after(*SPREAD, draw(0, 3), intake(5))
        self.assert_told(plant, batch(3), [5, 5, 0, 0, 0, 0])
        self.assert_told(plant, batch(1), [25, 0, 6, 11, 2, 6])

    def test_range(self):
        for b in (0, -1, 65, LOWEST, HIGHEST):
            self.assert_refused(busy_plant(), batch(b), -1)
            self.assert_refused(plant_after(lay()), batch(b), -1)

    def test_no_such_batch(self):
        self.assert_refused(plant_after(lay()), batch(1), -10)
        plant = plant_after(*SPREAD)
        self.assert_refused(plant, batch(3), -10)
        self.assert_refused(plant, batch(64), -10)
        # An intake that was refused is no batch.
        self.assertEqual(ask_on(plant, intake(1000), batch(3)), [[-6], [-10]])

    def test_64_batches(self):
        plant = plant_after(lay(raw=10000), *[intake(number) for number in range(1, 64)])
        self.assert_told(plant, batch(63), [63, 63, 0, 0, 0, 0])
        self.assert_refused(plant, batch(64), -10)
        ask_on(plant, intake(64))
        self.assert_told(plant, batch(1), [1, 1, 0, 0, 0, 0])
        self.assert_told(plant, batch(63), [63, 63, 0, 0, 0, 0])
        self.assert_told(plant, batch(64), [64, 64, 0, 0, 0, 0])
        self.assert_refused(plant, batch(65), -1)

    def test_the_greatest_batch(self):
        self.assertEqual(last(lay(raw=10 ** 9), intake(10 ** 9), batch(1)), [10 ** 9, 10 ** 9, 0, 0, 0, 0])


class Who(PlantCase):
    def test_draws_that_have_some_of_it(self):
        # 5 of 3 and 7 are 2 and 3; 1 of 1 and 4 is 1 and 0; then 4 of batch 2 are left.
        plant = plant_after(*MIXED, draw(1, 4), draw(0, 5), draw(0, 1), draw(0, 4))
        self.assert_told(plant, who(1), [3, 1, 4, 2, 2, 3, 1])
        self.assert_told(plant, who(2), [2, 2, 3, 4, 4])

    def test_no_draw(self):
        plant = plant_after(lay(), intake(25))
        self.assert_told(plant, who(1), [0])
        plant = plant_after(*MIXED, draw(1, 4))
        self.assert_told(plant, who(2), [0])

    def test_a_batch_that_came_in_behind_all_draws(self):
        plant = plant_after(*MIXED, draw(0, 5), intake(9))
        self.assert_told(plant, who(3), [0])
        self.assert_told(plant, who(2), [1, 1, 3])

    def test_more_draws_than_batches(self):
        plant = plant_after(*MIXED, *[draw(1, 1)] * 10)
        self.assert_told(plant, who(1), [10] + [number for d in range(1, 11) for number in (d, 1)])

    def test_drawn_is_told_and_not_drained(self):
        plant = plant_after(*MIXED, draw(0, 5), drain(0, 100), drain(1, 100), drain(2, 1))
        self.assert_told(plant, who(1), [1, 1, 2])
        self.assert_told(plant, who(2), [1, 1, 3])

    def test_range(self):
        for b in (0, -1, 65, LOWEST, HIGHEST):
            self.assert_refused(busy_plant(), who(b), -1)
            self.assert_refused(plant_after(lay()), who(b), -1)

    def test_no_such_batch(self):
        self.assert_refused(plant_after(lay()), who(1), -10)
        plant = plant_after(*MIXED, draw(0, 5))
        self.assert_refused(plant, who(3), -10)
        self.assert_refused(plant, who(64), -10)

    def test_the_last_of_64_batches(self):
        # All but the last one are drained before it comes.
        calls = [lay(cells=2)] + [intake(1)] * 63 + [drain(0, 63), intake(20), TEST, loop(1), tick(1), draw(0, 7)]
        plant = plant_after(*calls)
        self.assert_told(plant, who(64), [1, 1, 7])
        self.assert_told(plant, who(63), [0])
        self.assert_told(plant, batch(64), [20, 0, 5, 3, 7, 5])
        self.assert_told(plant, batch(63), [1, 0, 0, 0, 0, 1])
        self.assert_refused(plant, who(65), -1)
