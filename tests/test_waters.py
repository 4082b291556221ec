"""Points 12 and 13, water and cell: a whole water."""

from tests.helper import (
    HIGHEST, LOWEST, TEST, PlantCase, ask, ask_on, busy_plant, cell, dose, drain, draw, intake, last, lay, loop,
    plant_after, tick, water,
)

TWO_BATCHES = [lay(), intake(25, 4, 3, 7), intake(16, 1, 5, 2), TEST]
NOTHING = [0, 0, 0, 0, 0, 0]


class TankTold(PlantCase):
    def test_empty_ones(self):
        plant = plant_after(lay())
        for which in (0, 1, 2):
            self.assert_told(plant, water(which), NOTHING)

    def test_the_raw_tank(self):
        plant = plant_after(*TWO_BATCHES)
        self.assert_told(plant, water(0), [41, 116, 155, 207, 0, 2, 1, 25, 2, 16])
        self.assertEqual(ask_on(plant, water(1), water(2)), [NOTHING, NOTHING])

    def test_all_three_behind_a_gulp(self):
        plant = plant_after(*TWO_BATCHES, tick(1))
        self.assert_told(plant, water(0), [21, 60, 80, 107, 0, 2, 1, 12, 2, 9])
        self.assert_told(plant, water(1), [15, 0, 0, 11, 0, 2, 1, 10, 2, 5])
        self.assert_told(plant, water(2), [5, 0, 0, 145, 0, 2, 1, 3, 2, 2])

    def test_a_batch_of_which_nothing_is_there_is_not_told(self):
        self.assertEqual(last(*TWO_BATCHES, tick(2), water(0)), [1, 3, 4, 6, 0, 1, 2, 1])
        self.assertEqual(last(*TWO_BATCHES, intake(1), drain(0, 42), intake(5, 1, 2, 3), water(0)),
                         [5, 5, 10, 15, 0, 1, 4, 5])

    def test_disinfectant(self):
        calls = [*TWO_BATCHES, tick(1), dose(9)]
        self.assertEqual(last(*calls, water(1)), [15, 0, 0, 11, 9, 2, 1, 10, 2, 5])
        self.assertEqual(last(*calls, drain(1, 15), water(2)), [20, 0, 0, 156, 9, 2, 1, 13, 2, 7])

    def test_hardness_and_chlorine_that_are_drained(self):
        self.assertEqual(last(*TWO_BATCHES, drain(0, 20), water(2)), [20, 56, 75, 100, 0, 2, 1, 13, 2, 7])

    def test_64_batches(self):
        bag = [number for batch in range(1, 65) for number in (batch, batch + 1)]
        calls = [lay(raw=10000)] + [intake(batch + 1) for batch in range(1, 65)]
        volume = sum(bag[1::2])
        self.assertEqual(last(*calls, water(0)), [volume, 0, 0, 0, 0, 64] + bag)
        self.assertEqual(last(*calls, drain(0, volume), water(2)), [volume, 0, 0, 0, 0, 64] + bag)

    def test_the_greatest_amounts(self):
        greatest = [lay(raw=10 ** 9, hmax=1000, cmax=1000, soft=10 ** 15, carbon=10 ** 15)]
        self.assertEqual(last(*greatest, intake(10 ** 9, 1000, 1000, 1000), water(0)),
                         [10 ** 9, 10 ** 12, 10 ** 12, 10 ** 12, 0, 1, 1, 10 ** 9])

    def test_range(self):
        for which in (-1, 3, LOWEST, HIGHEST):
            self.assert_refused(busy_plant(), water(which), -1)
            self.assert_refused(plant_after(lay()), water(which), -1)
        plant = busy_plant()
        for which in (0, 2):
            self.assert_told(plant, water(which), ask_on(plant, water(which))[0])


class CellTold(PlantCase):
    def test_empty_ones(self):
        plant = plant_after(lay())
        for i in (0, 1, 2):
            self.assert_told(plant, cell(i), NOTHING)

    def test_each_by_its_number(self):
        # Turns of 30 millilitres (19 and 11), 20 (12 and 8) and 10 (6 and 4); of 22 salt 7, of 15 7, of 8 all.
        plant = plant_after(*TWO_BATCHES, tick(2), loop(1), tick(3))
        self.assert_told(plant, cell(0), [10, 0, 0, 8, 0, 2, 1, 6, 2, 4])
        self.assert_told(plant, cell(1), [10, 0, 0, 7, 0, 2, 1, 6, 2, 4])
        self.assert_told(plant, cell(2), [10, 0, 0, 7, 0, 2, 1, 7, 2, 3])

    def test_disinfectant(self):
        calls = [lay(back=0), intake(20, 0, 0, 5), TEST, tick(1), dose(2), loop(1), tick(1)]
        self.assertEqual(last(*calls, cell(0)), [10, 0, 0, 50, 1, 1, 1, 10])

    def test_behind_a_draw(self):
        calls = [*TWO_BATCHES, tick(2), loop(1), tick(3)]
        # 3 of 6 and 4 are 1.8 and 1.2, so 2 and 1; of 8 salt 2.
        self.assertEqual(ask(*calls, draw(0, 3), cell(0))[-2:], [[1, 2, 1, 2, 2, 1], [7, 0, 0, 6, 0, 2, 1, 4, 2, 3]])
        self.assertEqual(ask(*calls, draw(1, 10), cell(1), cell(2))[-2:], [NOTHING, [10, 0, 0, 7, 0, 2, 1, 7, 2, 3]])

    def test_behind_a_drain_of_the_loop(self):
        calls = [*TWO_BATCHES, tick(2), loop(1), tick(3), drain(2, 1)]
        self.assertEqual(ask(*calls, cell(0), cell(1), cell(2))[-3:], [NOTHING] * 3)

    def test_range(self):
        for cells in (2, 3, 32):
            plant = plant_after(lay(cells=cells), intake(100), TEST, loop(1), tick(1))
            self.assert_told(plant, cell(0), [10, 0, 0, 0, 0, 1, 1, 10])
            self.assert_told(plant, cell(cells - 1), NOTHING)
            for i in (-1, cells, LOWEST, HIGHEST):
                self.assert_refused(plant, cell(i), -1)
