"""Point 2, tick: seconds, when a gulp may be taken, a gulp, a turn of the loop."""

from tests.helper import (
    EXCHANGE, HIGHEST, LOWEST, RENEW, TEST, PlantCase,
    ask, ask_on, busy_plant, dose, intake, last, lay, loop, plant_after, tick,
)


class Tick(PlantCase):
    def test_answers_gulps_and_reason_and_clean_count(self):
        self.assertEqual(last(lay(), tick(1)), [0, 1, 3])
        self.assertEqual(last(lay(), intake(1000), TEST, tick(3)), [3, 0, 3])
        self.assertEqual(last(lay(cells=32), intake(1000), TEST, tick(9)), [5, 1, 32])
        self.assertEqual(last(lay(), intake(1000), TEST, tick(1), dose(1), tick(1)), [1, 0, 0])

    def test_range(self):
        self.assertEqual(last(lay(), tick(3600)), [0, 1, 3])
        for k in (0, 3601, -1, LOWEST, HIGHEST):
            self.assert_refused(busy_plant(), tick(k), -1)

    def test_the_time_grows_and_an_idle_plant_stays_as_it_is(self):
        plant = busy_plant()
        ask_on(plant, EXCHANGE, loop(0))
        self.assert_changed(plant, tick(3600), [0, 1, 3], {"time": plant.time + 3600})

    def test_the_last_time(self):
        # No list of 400 calls gets there by ticks, so the time is set.
        plant = plant_after(lay())
        plant.time = 10000000000 - 5
        self.assert_refused(plant, tick(6), -8)
        self.assert_taken(plant, tick(5), [0, 1, 3])
        self.assertEqual(plant.time, 10000000000)
        self.assert_refused(plant, tick(1), -8)
        self.assert_refused(plant, tick(3600), -8)
        self.assert_refused(plant, tick(3601), -1)
        self.assert_refused(plant, tick(0), -1)


class Reasons(PlantCase):
    def test_1_no_test(self):
        self.assertEqual(last(lay(), intake(1000), tick(1)), [0, 1, 3])

    def test_1_a_test_that_is_too_old(self):
        ready = [lay(holds=5), intake(1000), tick(7), TEST]
        self.assertEqual(last(*ready, tick(4)), [4, 0, 3])
        self.assertEqual(last(*ready, tick(5)), [5, 1, 3])
        self.assertEqual(last(*ready, tick(6)), [5, 1, 3])
        self.assertEqual(ask(lay(holds=1), intake(1000), TEST, tick(1), tick(1), TEST, tick(2))[3:],
                         [[1, 1, 3], [0, 1, 3], [1], [1, 1, 3]])

    def test_2_the_softener_might_not_take_all(self):
        # 10 times 60 millilitres is the last that 600 can take.
        self.assertEqual(last(lay(soft=600), intake(1000), TEST, tick(2)), [2, 0, 3])
        self.assertEqual(last(lay(soft=600), intake(1000), TEST, tick(3)), [3, 2, 3])
        self.assertEqual(last(lay(soft=599), intake(1000), TEST, tick(2)), [2, 2, 3])
        self.assertEqual(last(lay(soft=599), intake(1000), TEST, tick(4)), [2, 2, 3])

    def test_2_is_of_the_millilitres_even_of_soft_water(self):
        self.assertEqual(last(lay(soft=200), intake(1000, 0), TEST, tick(1)), [1, 2, 3])

    def test_3_too_little_raw_water(self):
        self.assertEqual(last(lay(), intake(19), TEST, tick(1)), [0, 3, 3])
        self.assertEqual(last(lay(), intake(20), TEST, tick(1)), [1, 3, 3])
        self.assertEqual(last(lay(), intake(39), TEST, tick(3)), [1, 3, 3])
        self.assertEqual(last(lay(), intake(40), TEST, tick(1)), [1, 0, 3])

    def test_4_no_room_in_the_store(self):
        # 15 of 20 millilitres go through.
        self.assertEqual(last(lay(store=30), intake(1000), TEST, tick(1)), [1, 0, 3])
        self.assertEqual(last(lay(store=30), intake(1000), TEST, tick(4)), [2, 4, 3])
        self.assertEqual(last(lay(store=29), intake(1000), TEST, tick(4)), [1, 4, 3])
        self.assertEqual(last(lay(store=14), intake(1000), TEST, tick(4)), [0, 4, 3])

    def test_4_what_goes_through_is_rounded_down(self):
        # 20 times 749 over 1000 is 14.98.
        self.assertEqual(last(lay(store=14, through=749), intake(1000), TEST, tick(2)), [1, 4, 3])
        self.assertEqual(last(lay(store=13, through=749), intake(1000), TEST, tick(2)), [0, 4, 3])

    def test_the_first_that_holds_is_told(self):
        # Hard up in every way: too old, softener, raw tank and store.
        worn = [lay(soft=400, store=30), intake(40), TEST, tick(2)]
        self.assertEqual(ask(*worn, tick(3))[-2:], [[2, 2, 3], [0, 1, 3]])
        self.assertEqual(last(*worn, RENEW, tick(1)), [0, 3, 3])
        self.assertEqual(last(*worn, RENEW, intake(19), tick(1)), [0, 3, 3])
        self.assertEqual(last(*worn, RENEW, intake(20), tick(1)), [0, 4, 3])
        self.assertEqual(last(*worn, RENEW, intake(20), tick(3)), [0, 1, 3])


class Gulp(PlantCase):
    def test_of_two_batches(self):
        # Of 41 millilitres 20 are 12.2 and 7.8, so 13 and 7; of these 15 are 9.75 and 5.25, so 10 and 5.
        # Hardness 116 gives 56, chlorine 155 gives 75, salt 207 gives 100; a tenth of 117 salt goes along.
        plant = plant_after(lay(), intake(25, 4, 3, 7), intake(16, 1, 5, 2), TEST)
        self.assert_changed(plant, tick(1), [1, 0, 3], {
            "raw": {"bag": [2, 1, 12, 2, 9], "volume": 21, "amounts": [60, 80, 107, 0]},
            "store": {"bag": [2, 1, 10, 2, 5], "volume": 15, "amounts": [0, 0, 11, 0]},
            "drained": {"bag": [2, 1, 3, 2, 2], "volume": 5, "amounts": [0, 0, 145, 0]},
            "softener_left": 10000 - 56, "since_renewed": 20, "hardness_taken": 56,
            "first_left": 9999 - 75, "chlorine_taken": 75, "time": 1,
        })

    def test_the_next_is_joined_to_the_first(self):
        plant = plant_after(lay(), intake(25, 4, 3, 7), intake(16, 1, 5, 2), TEST, tick(2))
        # Of 12 and 9 millilitres 20 are 11.4 and 8.6, so 12 and 8; of these 15 are just 9 and 6.
        # Salt: 107 * 20 // 21 is 101, and 57 for the hardness; 158 * 15 // 20 is 118, and 11 go along.
        self.assert_water(plant.raw, [1, 2, 1], [3, 4, 6, 0])
        self.assert_water(plant.store, [2, 1, 19, 2, 11], [0, 0, 22, 0])
        self.assert_water(plant.drained, [2, 1, 6, 2, 4], [0, 0, 145 + 147, 0])
        self.assertEqual((plant.softener_left, plant.since_renewed, plant.hardness_taken), (9887, 40, 113))
        self.assertEqual((plant.first_left, plant.second_left, plant.chlorine_taken), (9848, 10000, 151))

    def test_all_of_the_raw_tank(self):
        plant = plant_after(lay(), intake(20, 10, 10, 1000), TEST, tick(1))
        self.assert_water(plant.raw, [0], [0, 0, 0, 0])
        self.assert_water(plant.store, [1, 1, 15], [0, 0, 1515, 0])
        self.assert_water(plant.drained, [1, 1, 5], [0, 0, 20200 - 1515, 0])

    def test_all_goes_through(self):
        plant = plant_after(lay(through=1000, back=0), intake(20, 1, 1, 1), TEST, tick(1))
        self.assert_water(plant.store, [1, 1, 20], [0, 0, 40, 0])
        self.assert_water(plant.drained, [0], [0, 0, 0, 0])

    def test_all_salt_is_kept_back(self):
        plant = plant_after(lay(through=1000, back=1000), intake(20, 1, 1, 1), TEST, tick(1))
        self.assert_water(plant.store, [1, 1, 20], [0, 0, 0, 0])
        self.assert_water(plant.drained, [0], [0, 0, 40, 0])

    def test_nothing_goes_through(self):
        # 20 times 49 over 1000 is 0.98: a gulp is taken all the same, and all of it is drained.
        plant = plant_after(lay(through=49, back=0), intake(20, 1, 1, 1), TEST, tick(1))
        self.assertEqual(plant.since_renewed, 20)
        self.assert_water(plant.store, [0], [0, 0, 0, 0])
        self.assert_water(plant.drained, [1, 1, 20], [0, 0, 40, 0])

    def test_the_second_filter_takes_what_the_first_can_not(self):
        calls = [lay(gulp=10, holds=2, carbon=200), intake(1000, 0, 10), TEST]
        plant = plant_after(*calls, tick(1))
        self.assertEqual((plant.first_left, plant.second_left, plant.chlorine_taken), (99, 200, 100))
        plant = plant_after(*calls, tick(2))
        self.assertEqual((plant.first_left, plant.second_left, plant.chlorine_taken), (0, 199, 200))
        self.assertEqual(plant.store.amounts, [0, 0, 0, 0])
        self.assertEqual(plant.drained.amounts, [0, 0, 0, 0])

    def test_the_softener_and_the_filters_take_no_more_than_they_can(self):
        # No call gets a plant there, so what's left is set.
        plant = plant_after(lay(back=0, through=500), intake(20, 10, 10, 0), TEST)
        plant.softener_left = 150
        plant.first_left = 70
        plant.second_left = 30
        ask_on(plant, tick(1))
        self.assertEqual((plant.softener_left, plant.first_left, plant.second_left), (0, 0, 0))
        self.assertEqual((plant.hardness_taken, plant.chlorine_taken), (150, 100))
        self.assert_water(plant.store, [1, 1, 10], [25, 50, 75, 0])
        self.assert_water(plant.drained, [1, 1, 10], [25, 50, 75, 0])


class Turn(PlantCase):
    def test_only_while_the_loop_is_on(self):
        calls = [lay(), intake(1000), TEST, tick(2)]
        self.assertEqual([cell.volume for cell in plant_after(*calls).loop_cells], [0, 0, 0])
        plant = plant_after(*calls, EXCHANGE, loop(1), tick(1))
        self.assertEqual([cell.volume for cell in plant.loop_cells], [10, 0, 0])
        self.assertEqual(plant.store.volume, 20)
        plant = plant_after(*calls, EXCHANGE, loop(1), tick(1), loop(0), tick(9))
        self.assertEqual([cell.volume for cell in plant.loop_cells], [10, 0, 0])

    def test_goes_from_the_first_cell_to_the_last_and_back_to_the_store(self):
        # One gulp, 15 millilitres, then batch 2 into the store, so that the cells differ.
        plant = plant_after(
            lay(cells=2), intake(20), TEST, tick(1), loop(1), tick(1), loop(0), intake(20), tick(1), loop(1),
        )
        self.assert_water(plant.store, [2, 1, 5, 2, 15], [0, 0, 0, 0])
        self.assert_water(plant.loop_cells[0], [1, 1, 10], [0, 0, 0, 0])
        # 10 of 5 and 15 are 2.5 and 7.5, so 3 and 7.
        ask_on(plant, tick(1))
        self.assert_water(plant.loop_cells[0], [2, 1, 3, 2, 7], [0, 0, 0, 0])
        self.assert_water(plant.loop_cells[1], [1, 1, 10], [0, 0, 0, 0])
        self.assert_water(plant.store, [2, 1, 2, 2, 8], [0, 0, 0, 0])
        # The last cell comes back first: 12 and 8, of which 10 are 6 and 4.
        ask_on(plant, tick(1))
        self.assert_water(plant.loop_cells[0], [2, 1, 6, 2, 4], [0, 0, 0, 0])
        self.assert_water(plant.loop_cells[1], [2, 1, 3, 2, 7], [0, 0, 0, 0])
        self.assert_water(plant.store, [2, 1, 6, 2, 4], [0, 0, 0, 0])

    def test_the_amounts_go_along(self):
        # 15 millilitres with 75 salt and 2 disinfectant: 10 of them have 50 and 1.
        plant = plant_after(lay(back=0), intake(20, 0, 0, 5), TEST, tick(1), dose(2), loop(1), tick(1))
        self.assert_water(plant.loop_cells[0], [1, 1, 10], [0, 0, 50, 1])
        self.assert_water(plant.store, [1, 1, 5], [0, 0, 25, 1])

    def test_behind_the_gulp_of_the_same_second(self):
        plant = plant_after(lay(), intake(20), TEST, loop(1), tick(1))
        self.assertEqual([cell.volume for cell in plant.loop_cells], [10, 0, 0])
        self.assertEqual(plant.store.volume, 5)

    def test_a_store_with_less_than_one_cell(self):
        plant = plant_after(lay(back=0), intake(20, 0, 0, 5), TEST, loop(1), tick(2))
        self.assert_water(plant.loop_cells[0], [1, 1, 5], [0, 0, 25, 0])
        self.assert_water(plant.loop_cells[1], [1, 1, 10], [0, 0, 50, 0])
        self.assert_water(plant.store, [0], [0, 0, 0, 0])

    def test_a_store_with_just_one_cell(self):
        plant = plant_after(lay(cell=15, back=0), intake(20, 0, 0, 5), TEST, loop(1), tick(1))
        self.assert_water(plant.loop_cells[0], [1, 1, 15], [0, 0, 75, 0])
        self.assert_water(plant.store, [0], [0, 0, 0, 0])

    def test_an_empty_store(self):
        plant = plant_after(lay(), intake(20), TEST, loop(1), tick(3))
        self.assertEqual([cell.volume for cell in plant.loop_cells], [0, 5, 10])
        self.assertEqual(plant.store.volume, 0)
        # What comes back from the last cell goes out again at once.
        ask_on(plant, tick(1))
        self.assertEqual([cell.volume for cell in plant.loop_cells], [10, 0, 5])

    def test_a_new_plant(self):
        plant = plant_after(lay(), loop(1))
        self.assert_changed(plant, tick(5), [0, 1, 3], {"time": 5})

    def test_a_full_store(self):
        # 25 is all it may hold; the turn joins 10 more all the same, and takes 10 out.
        plant = plant_after(lay(store=25, cells=2), intake(1000), TEST, loop(1), tick(2), loop(0), tick(1), loop(1))
        self.assertEqual((plant.store.volume, [cell.volume for cell in plant.loop_cells]), (25, [10, 10]))
        self.assert_taken(plant, tick(1), [0, 4, 2])
        self.assertEqual((plant.store.volume, [cell.volume for cell in plant.loop_cells]), (25, [10, 10]))


class CleanCount(PlantCase):
    def test_grows_by_one_each_turn_and_stops_at_cells(self):
        # Of 1 in 45 millilitres nothing goes along with 10.
        calls = [lay(), intake(60), TEST, tick(3), dose(1), loop(1)]
        self.assertEqual([answer[2] for answer in ask(*calls, *[tick(1)] * 6)[6:]], [1, 2, 3, 3, 3, 3])

    def test_is_0_while_disinfectant_comes_to_the_first_cell(self):
        calls = [lay(), intake(60), TEST, tick(3), dose(1000), loop(1)]
        self.assertEqual([answer[2] for answer in ask(*calls, *[tick(1)] * 6)[6:]], [0] * 6)

    def test_falls_back_to_0(self):
        # Of 1 in 15 nothing goes with 10; with the other 5 all of it does; the empty cells behind are clean.
        calls = [lay(cells=4), intake(20), TEST, tick(1), dose(1), loop(1)]
        self.assertEqual([answer[2] for answer in ask(*calls, *[tick(1)] * 5)[6:]], [1, 0, 1, 2, 3])

    def test_stays_while_the_loop_is_off(self):
        self.assertEqual(last(lay(), intake(20), TEST, tick(1), dose(1), tick(50)), [0, 1, 0])

    def test_salt_is_no_disinfectant(self):
        self.assertEqual(last(lay(back=0), intake(60, 5, 5, 900), TEST, loop(1), tick(3)), [3, 3, 3])
