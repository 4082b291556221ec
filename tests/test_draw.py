"""Point 9, draw."""

from tests.helper import (
    EXCHANGE, HIGHEST, LOWEST, TEST, PlantCase, ask, ask_on, busy_plant, dose, draw, intake, last, lay, loop,
    plant_after, snapshot, tick,
)

# The three cells have 10 millilitres each.
ROUND = [lay(), intake(60), TEST, loop(1), tick(3)]
# The first cell has 3 millilitres of batch 1 and 7 of batch 2, with 20 salt.
MIXED = [
    lay(cells=2, back=0), intake(20, 0, 0, 2), TEST, tick(1), loop(1), tick(1), loop(0), intake(20, 0, 0, 2),
    tick(1), loop(1), tick(1), loop(0),
]


class Draw(PlantCase):
    def test_of_one_batch(self):
        plant = plant_after(*ROUND)
        cells = snapshot(plant.loop_cells)
        cells[1] = {"bag": [1, 1, 6], "volume": 6, "amounts": [0, 0, 0, 0]}
        water = {"bag": [1, 1, 4], "volume": 4, "amounts": [0, 0, 0, 0]}
        self.assert_changed(plant, draw(1, 4), [1, 1, 1, 4], {
            "loop_cells": cells, "draws": [{"tap": 1, "time": 3, "water": water}],
        })

    def test_of_two_batches(self):
        # 5 of 3 and 7 are 1.5 and 3.5, so 2 and 3.
        plant = plant_after(*MIXED)
        self.assert_water(plant.loop_cells[0], [2, 1, 3, 2, 7], [0, 0, 20, 0])
        self.assert_taken(plant, draw(0, 5), [1, 2, 1, 2, 2, 3])
        self.assert_water(plant.draws[0].water, [2, 1, 2, 2, 3], [0, 0, 10, 0])
        self.assert_water(plant.loop_cells[0], [2, 1, 1, 2, 4], [0, 0, 10, 0])

    def test_a_batch_that_gives_nothing_is_not_told(self):
        # 1 of 3 and 7 is 0.3 and 0.7: the smaller number gives it.
        self.assertEqual(last(*MIXED, draw(0, 1)), [1, 1, 1, 1])

    def test_draws_are_numbered_over_all_taps(self):
        plant = plant_after(*ROUND)
        self.assertEqual(ask_on(plant, draw(2, 1), draw(0, 2), tick(1), draw(2, 3)),
                         [[1, 1, 1, 1], [2, 1, 1, 2], [0, 3, 3], [3, 1, 1, 3]])
        self.assertEqual([(one.tap, one.time) for one in plant.draws], [(2, 3), (0, 3), (2, 4)])

    def test_each_range(self):
        for call in (draw(0, 10), draw(2, 10), draw(0, 1), draw(2, 1)):
            self.assertEqual(len(last(*ROUND, call)), 4, call)
        for call in (
            draw(-1, 1), draw(3, 1), draw(LOWEST, 1), draw(HIGHEST, 1),
            draw(0, 0), draw(0, -1), draw(0, 1000001), draw(0, LOWEST), draw(0, HIGHEST),
        ):
            self.assert_refused(plant_after(*ROUND), call, -1)
            self.assert_refused(busy_plant(), call, -1)

    def test_the_greatest_draw(self):
        big = [
            lay(cell=1000000, raw=1000000, store=1000000, gulp=1000000, soft=10 ** 9, carbon=10 ** 9, through=1000),
            intake(1000000), TEST, loop(1), tick(1),
        ]
        self.assertEqual(last(*big, draw(0, 1000000)), [1, 1, 1, 1000000])
        self.assertEqual(last(*big, draw(0, 1000001)), [-1])

    def test_a_cell_with_just_so_much_and_with_one_less(self):
        plant = plant_after(*ROUND)
        self.assert_refused(plant, draw(1, 11), -6)
        self.assert_taken(plant, draw(1, 10), [1, 1, 1, 10])
        self.assert_water(plant.loop_cells[1], [0], [0, 0, 0, 0])
        self.assert_refused(plant, draw(1, 1), -6)
        self.assert_taken(plant, draw(0, 9), [2, 1, 1, 9])
        self.assert_refused(plant, draw(0, 2), -6)
        self.assert_taken(plant, draw(0, 1), [3, 1, 1, 1])

    def test_an_empty_cell_of_a_new_plant(self):
        self.assert_refused(plant_after(lay()), draw(0, 1), -6)

    def test_the_clean_count_at_cells_and_one_below(self):
        calls = [lay(cells=3), intake(60), TEST, tick(3), dose(1), loop(1)]
        self.assertEqual(ask(*calls, tick(2), draw(0, 1))[6:], [[0, 1, 2], [-9]])
        self.assertEqual(ask(*calls, tick(3), draw(0, 1))[6:], [[0, 1, 3], [1, 1, 1, 1]])
        self.assert_refused(plant_after(*calls, tick(2)), draw(0, 1), -9)

    def test_512_draws(self):
        # More calls than a list may have, so they're made one by one on a plant.
        plant = plant_after(
            lay(cell=600, store=600, gulp=600, soft=10 ** 6, carbon=10 ** 6, through=1000),
            intake(600), TEST, loop(1), tick(1),
        )
        for number in range(1, 513):
            self.assert_taken(plant, draw(0, 1), [number, 1, 1, 1])
        self.assertEqual(plant.loop_cells[0].volume, 88)
        self.assert_refused(plant, draw(0, 1), -8)
        # Full is told ahead of not enough water and of not clean; a wrong argument ahead of it.
        self.assert_refused(plant, draw(0, 89), -8)
        self.assert_refused(plant, draw(3, 1), -1)
        plant.clean_count = 0
        self.assert_refused(plant, draw(0, 1), -8)

    def test_the_first_refusal_is_told(self):
        plant = plant_after(*ROUND, dose(1000))
        self.assert_refused(plant, draw(0, 1), -9)
        self.assert_refused(plant, draw(0, 11), -9)
        self.assert_refused(plant, draw(3, 1), -1)
        self.assert_refused(plant, draw(0, 1000001), -1)
        self.assert_refused(plant_after(*ROUND), draw(3, 11), -1)

    def test_needs_neither_a_test_nor_the_loop_on(self):
        self.assertEqual(ask(*ROUND, EXCHANGE, loop(0), draw(0, 1))[-1], [1, 1, 1, 1])

    def test_the_rest_of_the_cell_goes_on_in_the_loop(self):
        plant = plant_after(*ROUND, draw(2, 4), draw(0, 3), tick(1))
        self.assertEqual([cell.volume for cell in plant.loop_cells], [10, 7, 10])
        self.assertEqual(plant.store.volume, 15 + 6 - 10)
