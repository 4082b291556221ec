"""Points 7 and 8, loop and dose."""

from tests.helper import (
    HIGHEST, LOWEST, TEN_TO_15, TEST, PlantCase, ask_on, busy_plant, dose, draw, intake, last, lay, loop,
    plant_after, snapshot, tick,
)

# 45 millilitres are in the store.
FILLED = [lay(), intake(60), TEST, tick(3)]


class Loop(PlantCase):
    def test_on_and_off(self):
        plant = plant_after(lay())
        self.assert_changed(plant, loop(0), [0], {})
        self.assert_changed(plant, loop(1), [0], {"loop_on": True})
        self.assert_changed(plant, loop(1), [0], {})
        self.assert_changed(plant, loop(0), [0], {"loop_on": False})

    def test_nothing_else_changes(self):
        self.assert_changed(busy_plant(), loop(0), [0], {"loop_on": False})

    def test_range(self):
        for b in (-1, 2, LOWEST, HIGHEST):
            self.assert_refused(busy_plant(), loop(b), -1)
            self.assert_refused(plant_after(lay()), loop(b), -1)


class Dose(PlantCase):
    def test_the_store_gets_it(self):
        plant = plant_after(*FILLED)
        store = snapshot(plant.store)
        self.assert_changed(plant, dose(7), [0], {
            "store": {**store, "amounts": [0, 0, 0, 7]}, "disinfectant_put": 7, "clean_count": 0,
        })
        self.assert_changed(plant, dose(5), [0], {
            "store": {**store, "amounts": [0, 0, 0, 12]}, "disinfectant_put": 12,
        })

    def test_the_other_amounts_stay(self):
        plant = plant_after(lay(back=0), intake(20, 0, 0, 5), TEST, tick(1), dose(2))
        self.assert_water(plant.store, [1, 1, 15], [0, 0, 75, 2])

    def test_no_draw_until_all_cells_are_clean(self):
        plant = plant_after(*FILLED, loop(1), tick(3), draw(0, 1), dose(1))
        for clean in (0, 1, 2):
            self.assertEqual(plant.clean_count, clean)
            self.assert_refused(plant, draw(0, 1), -9)
            ask_on(plant, tick(1))
        self.assert_taken(plant, draw(0, 1), [2, 1, 1, 1])

    def test_range(self):
        self.assertEqual(last(*FILLED, dose(1)), [0])
        self.assertEqual(last(*FILLED, dose(1000000)), [0])
        for g in (0, -1, 1000001, LOWEST, HIGHEST):
            self.assert_refused(plant_after(*FILLED), dose(g), -1)

    def test_an_empty_store(self):
        self.assert_refused(plant_after(lay()), dose(1), -6)
        # All of it is in the loop.
        self.assert_refused(plant_after(lay(cell=15), intake(20), TEST, loop(1), tick(1)), dose(1), -6)

    def test_a_store_of_one_millilitre(self):
        self.assertEqual(last(lay(gulp=1, through=1000), intake(1), TEST, tick(1), dose(1)), [0])

    def test_full(self):
        # No list of 400 calls gets there, so the sum is set.
        plant = plant_after(*FILLED)
        plant.disinfectant_put = TEN_TO_15 - 10
        self.assert_refused(plant, dose(11), -8)
        self.assert_taken(plant, dose(10), [0])
        self.assertEqual(plant.disinfectant_put, TEN_TO_15)
        self.assert_refused(plant, dose(1), -8)

    def test_the_first_refusal_is_told(self):
        plant = plant_after(lay())
        plant.disinfectant_put = TEN_TO_15
        self.assert_refused(plant, dose(0), -1)
        self.assert_refused(plant, dose(1), -6)
        plant = plant_after(*FILLED)
        plant.disinfectant_put = TEN_TO_15
        self.assert_refused(plant, dose(1000001), -1)
