"""Point 10, drain."""

from tests.helper import (
    EXCHANGE, HIGHEST, LOWEST, TEST, PlantCase, ask_on, busy_plant, cell, dose, drain, draw, intake, last, lay, loop,
    plant_after, tick, water,
)

MOST = 1000000000000
# 41 millilitres of two batches are in the raw tank.
RAW = [lay(), intake(25, 4, 3, 7), intake(16, 1, 5, 2)]
# 15 millilitres with 75 salt and 2 disinfectant are in the store, 5 with 25 salt are drained.
STORED = [lay(back=0), intake(20, 0, 0, 5), TEST, tick(1), dose(2)]
# The cells have 10 millilitres each, 15 are in the store, 15 are drained.
ROUND = [lay(), intake(60), TEST, loop(1), tick(3)]

EMPTY = {"bag": [0], "volume": 0, "amounts": [0, 0, 0, 0]}


class DrainTheRawTank(PlantCase):
    def test_a_part_of_it(self):
        # Of 41 millilitres 20 are 12.2 and 7.8, so 13 and 7; of 116, 155 and 207 they have 56, 75 and 100.
        plant = plant_after(*RAW)
        self.assert_changed(plant, drain(0, 20), [20], {
            "raw": {"bag": [2, 1, 12, 2, 9], "volume": 21, "amounts": [60, 80, 107, 0]},
            "drained": {"bag": [2, 1, 13, 2, 7], "volume": 20, "amounts": [56, 75, 100, 0]},
        })
        # Of 21 millilitres 2 are 1.1 and 0.9, so 2 and 0; of 60, 80 and 107 they have 5, 7 and 10.
        self.assert_changed(plant, drain(0, 2), [2], {
            "raw": {"bag": [2, 1, 10, 2, 9], "volume": 19, "amounts": [55, 73, 97, 0]},
            "drained": {"bag": [2, 1, 15, 2, 7], "volume": 22, "amounts": [61, 82, 110, 0]},
        })

    def test_all_but_one_millilitre(self):
        # 40 of 25 and 16 are 24.4 and 15.6, so 25 and 15.
        plant = plant_after(*RAW)
        self.assert_changed(plant, drain(0, 40), [40], {
            "raw": {"bag": [1, 2, 1], "volume": 1, "amounts": [3, 4, 6, 0]},
            "drained": {"bag": [2, 1, 25, 2, 15], "volume": 40, "amounts": [113, 151, 201, 0]},
        })

    def test_just_as_much_as_there_is_and_more(self):
        for v in (41, 42, 1000, MOST):
            self.assert_changed(plant_after(*RAW), drain(0, v), [41], {
                "raw": EMPTY, "drained": {"bag": [2, 1, 25, 2, 16], "volume": 41, "amounts": [116, 155, 207, 0]},
            })

    def test_an_empty_one(self):
        self.assert_changed(plant_after(lay()), drain(0, 1), [0], {})
        self.assert_changed(plant_after(*RAW, drain(0, 41)), drain(0, 41), [0], {})

    def test_there_is_room_again(self):
        plant = plant_after(lay(raw=100), intake(100))
        self.assert_refused(plant, intake(7), -6)
        self.assert_taken(plant, drain(0, 6), [6])
        self.assert_refused(plant, intake(7), -6)
        self.assert_taken(plant, drain(0, 1), [1])
        self.assert_taken(plant, intake(7), [2])

    def test_what_is_drained_is_no_gulp_any_more(self):
        self.assertEqual(last(lay(), intake(40), TEST, drain(0, 20), tick(1)), [1, 3, 3])
        self.assertEqual(last(lay(), intake(40), TEST, drain(0, 21), tick(1)), [0, 3, 3])


class DrainTheStore(PlantCase):
    def test_a_part_of_it(self):
        plant = plant_after(*STORED)
        self.assert_changed(plant, drain(1, 10), [10], {
            "store": {"bag": [1, 1, 5], "volume": 5, "amounts": [0, 0, 25, 1]},
            "drained": {"bag": [1, 1, 15], "volume": 15, "amounts": [0, 0, 75, 1]},
        })

    def test_of_two_batches(self):
        # 11 of 10 and 5 are 7.3 and 3.7, so 8 and 3; of 11 salt they have 8.
        plant = plant_after(*RAW, TEST, tick(1))
        self.assert_changed(plant, drain(1, 11), [11], {
            "store": {"bag": [2, 1, 2, 2, 2], "volume": 4, "amounts": [0, 0, 3, 0]},
            "drained": {"bag": [2, 1, 11, 2, 5], "volume": 16, "amounts": [0, 0, 153, 0]},
        })

    def test_just_as_much_as_there_is_and_more(self):
        self.assert_changed(plant_after(*STORED), drain(1, 14), [14], {
            "store": {"bag": [1, 1, 1], "volume": 1, "amounts": [0, 0, 5, 1]},
            "drained": {"bag": [1, 1, 19], "volume": 19, "amounts": [0, 0, 95, 1]},
        })
        for v in (15, 16, MOST):
            # All of it takes the disinfectant along, but the clean count stays.
            self.assert_changed(plant_after(*STORED), drain(1, v), [15], {
                "store": EMPTY, "drained": {"bag": [1, 1, 20], "volume": 20, "amounts": [0, 0, 100, 2]},
            })

    def test_an_empty_one(self):
        self.assert_changed(plant_after(lay()), drain(1, 1), [0], {})
        self.assert_changed(plant_after(*STORED, drain(1, 15)), drain(1, MOST), [0], {})

    def test_there_is_room_again(self):
        plant = plant_after(lay(store=29), intake(100), TEST, tick(1))
        self.assert_taken(plant, tick(1), [0, 4, 3])
        self.assert_taken(plant, drain(1, 1), [1])
        self.assert_taken(plant, tick(1), [1, 4, 3])

    def test_a_dose_into_what_is_left(self):
        plant = plant_after(*STORED)
        self.assert_taken(plant, drain(1, 14), [14])
        self.assert_taken(plant, dose(1), [0])
        self.assert_taken(plant, drain(1, 1), [1])
        self.assert_refused(plant, dose(1), -6)


class DrainTheLoop(PlantCase):
    def test_all_cells_whatever_v_is(self):
        for v in (1, 29, 30, 31, MOST):
            self.assert_changed(plant_after(*ROUND), drain(2, v), [30], {
                "loop_cells": [EMPTY] * 3, "drained": {"bag": [1, 1, 45], "volume": 45, "amounts": [0, 0, 0, 0]},
            })

    def test_v_outside_its_range(self):
        for v in (0, -1, MOST + 1, LOWEST, HIGHEST):
            self.assert_refused(plant_after(*ROUND), drain(2, v), -1)

    def test_with_the_loop_on_and_off(self):
        for on in (0, 1):
            plant = plant_after(*ROUND, loop(on))
            self.assert_taken(plant, drain(2, 1), [30])
            self.assertEqual(plant.loop_on, on == 1)
            self.assertEqual([held.volume for held in plant.loop_cells], [0, 0, 0])
            ask_on(plant, tick(1))
            self.assertEqual([held.volume for held in plant.loop_cells], [10 * on, 0, 0])

    def test_batches_and_amounts_of_all_cells(self):
        plant = plant_after(
            lay(cells=2, back=0), intake(20, 0, 0, 2), TEST, tick(1), loop(1), tick(1), loop(0), intake(20, 0, 0, 2),
            tick(1), loop(1), tick(1),
        )
        self.assertEqual(ask_on(plant, cell(0), cell(1), water(2)), [
            [10, 0, 0, 20, 0, 2, 1, 3, 2, 7], [10, 0, 0, 20, 0, 1, 1, 10], [10, 0, 0, 20, 0, 2, 1, 5, 2, 5],
        ])
        self.assert_changed(plant, drain(2, 1), [20], {
            "loop_cells": [EMPTY] * 2, "drained": {"bag": [2, 1, 18, 2, 12], "volume": 30, "amounts": [0, 0, 60, 0]},
        })

    def test_empty_cells(self):
        self.assert_changed(plant_after(lay()), drain(2, 1), [0], {})
        self.assert_changed(plant_after(*ROUND, drain(2, 1)), drain(2, 1), [0], {})

    def test_the_clean_count_is_cells(self):
        plant = plant_after(*STORED, loop(1), tick(1))
        self.assertEqual(plant.clean_count, 0)
        self.assert_changed(plant, drain(2, 1), [10], {
            "loop_cells": [EMPTY] * 3, "clean_count": 3,
            "drained": {"bag": [1, 1, 15], "volume": 15, "amounts": [0, 0, 75, 1]},
        })

    def test_the_clean_count_is_cells_though_nothing_was_in_the_loop(self):
        self.assert_changed(plant_after(*STORED), drain(2, 1), [0], {"clean_count": 3})
        self.assert_changed(plant_after(lay(cells=32), *STORED[1:]), drain(2, 1), [0], {"clean_count": 32})

    def test_a_clean_count_between_0_and_cells(self):
        plant = plant_after(lay(), intake(60), TEST, tick(3), dose(1), loop(1), tick(2))
        self.assertEqual(plant.clean_count, 2)
        self.assert_taken(plant, drain(2, 1), [20])
        self.assertEqual(plant.clean_count, 3)

    def test_nothing_can_be_drawn_of_empty_cells(self):
        plant = plant_after(*STORED, loop(1), tick(1))
        self.assert_refused(plant, draw(0, 1), -9)
        ask_on(plant, drain(2, 1))
        for tap in range(3):
            self.assert_refused(plant, draw(tap, 1), -6)

    def test_disinfectant_that_is_still_in_the_store_is_told_by_the_next_turn(self):
        # 1 in the store's 5 millilitres: all 5 come to the first cell.
        plant = plant_after(*STORED, loop(1), tick(1), drain(2, 1))
        self.assert_taken(plant, tick(1), [0, 3, 0])
        self.assert_refused(plant, draw(0, 1), -9)

    def test_a_clean_store_can_be_drawn_at_once(self):
        plant = plant_after(*STORED, drain(1, 15), drain(2, 1), loop(1), intake(20), tick(1))
        self.assertEqual(plant.clean_count, 3)
        self.assert_taken(plant, draw(0, 10), [1, 1, 2, 10])

    def test_draws_stay(self):
        plant = plant_after(*ROUND, draw(1, 4))
        self.assert_changed(plant, drain(2, 1), [26], {
            "loop_cells": [EMPTY] * 3, "drained": {"bag": [1, 1, 41], "volume": 41, "amounts": [0, 0, 0, 0]},
        })


class DrainInAll(PlantCase):
    def test_each_range(self):
        for which in (0, 1, 2):
            for v in (1, MOST):
                self.assertGreater(ask_on(busy_plant(), drain(which, v))[0][0], 0)
            for v in (0, -1, MOST + 1, LOWEST, HIGHEST):
                self.assert_refused(busy_plant(), drain(which, v), -1)
                self.assert_refused(plant_after(lay()), drain(which, v), -1)
        for which in (-1, 3, LOWEST, HIGHEST):
            for v in (0, 1, MOST, MOST + 1):
                self.assert_refused(busy_plant(), drain(which, v), -1)

    def test_more_is_drained_than_any_tank_holds(self):
        load = 1000000000
        plant = plant_after(lay(raw=load), intake(load), drain(0, MOST), intake(load), drain(0, load))
        self.assertEqual(plant.drained.volume, 2 * load)

    def test_needs_no_test_and_keeps_the_one_that_holds(self):
        plant = plant_after(*RAW, TEST)
        ask_on(plant, drain(0, 1), drain(1, 1), drain(2, 1))
        self.assertEqual(plant.test_time, 0)
        plant = plant_after(*RAW, TEST, EXCHANGE)
        self.assertEqual(ask_on(plant, drain(0, 1), drain(1, 1), drain(2, 1)), [[1], [0], [0]])
