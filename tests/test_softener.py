"""Points 5 and 6, renew and brine."""

from tests.helper import (
    HIGHEST, LOWEST, RENEW, TEN_TO_15, TEST, PlantCase, ask, brine, busy_plant, intake, lay, plant_after, tick,
)

# Two gulps of 20 millilitres with 7 hardness each: 280.
HARD = [lay(), intake(1000, 7), TEST, tick(2)]


class Renew(PlantCase):
    def test_uses_what_the_softener_took(self):
        plant = plant_after(*HARD, brine(1000))
        self.assertEqual((plant.softener_left, plant.since_renewed), (9720, 40))
        self.assert_changed(plant, RENEW, [280, 720], {"softener_left": 10000, "since_renewed": 0, "brine": 720})

    def test_just_enough_brine_and_one_less(self):
        self.assert_refused(plant_after(*HARD), RENEW, -7)
        self.assert_refused(plant_after(*HARD, brine(279)), RENEW, -7)
        self.assert_taken(plant_after(*HARD, brine(280)), RENEW, [280, 0])

    def test_of_a_softener_that_took_nothing(self):
        self.assertEqual(ask(lay(), RENEW, brine(3), RENEW), [[0], [0, 0], [3], [0, 3]])

    def test_the_millilitres_begin_anew(self):
        # Soft water wears nothing out, but the millilitres count.
        self.assertEqual(ask(lay(soft=400), intake(1000), TEST, tick(3), RENEW, tick(1), tick(5))[3:],
                         [[2, 2, 3], [0, 0], [1, 0, 3], [1, 1, 3]])

    def test_again_and_again(self):
        self.assertEqual(ask(*HARD, brine(500), RENEW, tick(1), RENEW, RENEW, tick(1), RENEW)[4:],
                         [[500], [280, 220], [1, 0, 3], [140, 80], [0, 80], [1, 0, 3], [-7]])


class Brine(PlantCase):
    def test_answers_how_much_there_is(self):
        self.assertEqual(ask(lay(), brine(5), brine(7), brine(1)), [[0], [5], [12], [13]])

    def test_nothing_else_changes(self):
        plant = busy_plant()
        self.assert_changed(plant, brine(9), [plant.brine + 9], {"brine": plant.brine + 9})

    def test_range(self):
        self.assertEqual(ask(lay(), brine(1)), [[0], [1]])
        self.assertEqual(ask(lay(), brine(TEN_TO_15)), [[0], [TEN_TO_15]])
        for g in (0, -1, TEN_TO_15 + 1, LOWEST, HIGHEST):
            self.assert_refused(plant_after(lay()), brine(g), -1)

    def test_full(self):
        plant = plant_after(lay(), brine(TEN_TO_15 - 3))
        self.assert_refused(plant, brine(4), -8)
        self.assert_refused(plant, brine(TEN_TO_15), -8)
        self.assert_taken(plant, brine(3), [TEN_TO_15])
        self.assert_refused(plant, brine(1), -8)

    def test_the_first_refusal_is_told(self):
        plant = plant_after(lay(), brine(TEN_TO_15))
        self.assert_refused(plant, brine(TEN_TO_15 + 1), -1)
        self.assert_refused(plant, brine(0), -1)
