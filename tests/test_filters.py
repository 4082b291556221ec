"""Points 3 and 4, test and exchange."""

from tests.helper import EXCHANGE, TEN_TO_15, TEST, PlantCase, ask, ask_on, busy_plant, intake, lay, plant_after, tick

# 300 is the least carbon for it; three gulps of full chlorine take 100 each.
THIN = [lay(gulp=10, holds=3, carbon=300), intake(1000, 0, 10)]
# The first filter is worn out, and the second test holds until 5; it's 3 now.
WORN = THIN + [TEST, tick(2), TEST, tick(1)]


class Test(PlantCase):
    def test_takes_a_dose_and_holds_from_now(self):
        plant = busy_plant()
        self.assert_changed(plant, TEST, [1], {
            "first_left": plant.first_left - 1, "doses": plant.doses + 1, "test_time": plant.time,
        })

    def test_the_dose_is_not_of_the_water(self):
        plant = plant_after(lay(), TEST, TEST, TEST)
        self.assertEqual((plant.doses, plant.chlorine_taken, plant.disinfectant_put), (3, 0, 0))

    def test_in_place_of_the_one_before(self):
        self.assertEqual(ask(lay(holds=5), intake(1000), TEST, tick(4), TEST, tick(4), tick(1), tick(1))[3:],
                         [[4, 0, 3], [1], [4, 0, 3], [1, 1, 3], [0, 1, 3]])

    def test_a_filter_that_can_take_just_the_dose(self):
        # A gulp of 298 leaves 1 of the 299.
        plant = plant_after(lay(gulp=149, holds=1, cmax=2, carbon=300), intake(1000, 0, 2), TEST, tick(1))
        self.assertEqual(plant.first_left, 1)
        self.assertEqual(ask_on(plant, TEST, tick(1)), [[1], [1, 1, 3]])
        self.assertEqual((plant.first_left, plant.second_left), (0, 2))
        self.assertEqual(ask_on(plant, TEST, tick(1)), [[0], [0, 1, 3]])

    def test_a_worn_filter_ends_the_test_that_held(self):
        plant = plant_after(*WORN)
        self.assertEqual((plant.first_left, plant.second_left, plant.time, plant.test_time), (0, 298, 3, 2))
        self.assert_changed(plant, TEST, [0], {"test_time": None})
        self.assert_taken(plant, tick(1), [0, 1, 3])

    def test_without_it_the_plant_would_have_gone_on(self):
        self.assertEqual(ask(*WORN, tick(1), tick(3))[5:], [[1, 0, 3], [1, 0, 3], [1, 1, 3]])

    def test_the_last_dose(self):
        # No list of 400 calls gets there, so the sum is set.
        plant = plant_after(*THIN)
        plant.doses = TEN_TO_15 - 1
        self.assert_taken(plant, TEST, [1])
        self.assertEqual(plant.doses, TEN_TO_15)
        self.assert_refused(plant, TEST, -8)

    def test_full_is_told_ahead_of_a_worn_filter(self):
        plant = plant_after(*WORN)
        plant.doses = TEN_TO_15
        self.assert_refused(plant, TEST, -8)


class Exchange(PlantCase):
    def test_the_second_becomes_the_first(self):
        plant = plant_after(*WORN)
        self.assert_changed(plant, EXCHANGE, [0, 298], {"first_left": 298, "second_left": 300, "test_time": None})

    def test_of_new_filters(self):
        self.assertEqual(ask(lay(), TEST, EXCHANGE, EXCHANGE, TEST, EXCHANGE)[1:],
                         [[1], [9999, 10000], [10000, 10000], [1], [9999, 10000]])

    def test_no_test_holds_behind_it(self):
        self.assertEqual(ask(lay(), intake(1000), TEST, tick(1), EXCHANGE, tick(1), TEST, tick(1))[3:],
                         [[1, 0, 3], [9999, 10000], [0, 1, 3], [1], [1, 0, 3]])

    def test_nothing_else_changes(self):
        plant = busy_plant()
        before = [plant.first_left, plant.second_left]
        self.assertLess(before[0], 10000)
        self.assert_changed(plant, EXCHANGE, before, {"first_left": 10000, "second_left": 10000, "test_time": None})
