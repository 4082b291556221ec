"""Point 11, look."""

from tests.helper import (
    EXCHANGE, LAST_TIME, LOOK, RENEW, TEST, PlantCase, ask_on, brine, busy_plant, dose, drain, draw, intake, last, lay,
    loop, plant_after, tick,
)


class Look(PlantCase):
    def test_a_plant_that_was_just_laid(self):
        calls = [lay(cells=7, soft=30000, carbon=20000)]
        self.assert_told(plant_after(*calls), LOOK, [0, 30000, 20000, 20000, 0, 0, 0, 7, 0, 0, 1, 0, 0])

    def test_all_thirteen(self):
        # Gulps of 56 and 57 hardness, of 75 and 76 chlorine; one millilitre is left in the raw tank.
        plant = plant_after(
            lay(), brine(600), intake(25, 4, 3, 7), intake(16, 1, 5, 2), tick(7), TEST, tick(1), loop(1), tick(1),
            draw(0, 3),
        )
        self.assert_told(plant, LOOK, [9, 9887, 9848, 10000, 40, 600, 1, 3, 2, 1, 3, 1, 7])

    def test_the_second_filter(self):
        plant = plant_after(lay(gulp=10, holds=2, carbon=200), intake(1000, 0, 10), TEST, tick(2))
        self.assert_told(plant, LOOK, [2, 10000, 0, 199, 20, 0, 0, 3, 1, 0, 1, 1, 0])
        ask_on(plant, EXCHANGE)
        self.assert_told(plant, LOOK, [2, 10000, 199, 200, 20, 0, 0, 3, 1, 0, 1, 0, 0])

    def test_the_softener_and_brine_behind_renew(self):
        plant = plant_after(lay(), brine(600), intake(40, 5), TEST, tick(1))
        self.assertEqual(ask_on(plant, LOOK)[0][:6], [1, 9900, 9999, 10000, 20, 600])
        ask_on(plant, RENEW)
        self.assertEqual(ask_on(plant, LOOK)[0][:6], [1, 10000, 9999, 10000, 0, 500])

    def test_the_loop_on_and_off(self):
        self.assertEqual(last(lay(), LOOK)[6], 0)
        self.assertEqual(last(lay(), loop(1), LOOK)[6], 1)
        self.assertEqual(last(lay(), loop(1), loop(0), LOOK)[6], 0)

    def test_the_clean_count(self):
        calls = [lay(), intake(60), TEST, tick(3), dose(1), loop(1)]
        self.assertEqual(last(*calls, LOOK)[7], 0)
        self.assertEqual(last(*calls, tick(2), LOOK)[7], 2)
        self.assertEqual(last(*calls, tick(2), drain(2, 1), LOOK)[7], 3)

    def test_how_many_batches_and_draws(self):
        calls = [lay(), intake(30), intake(15), intake(15), TEST, loop(1), tick(3)]
        self.assertEqual(last(*calls, LOOK)[8:10], [3, 0])
        self.assertEqual(last(*calls, intake(2000), draw(0, 11), LOOK)[8:10], [3, 0])
        self.assertEqual(last(*calls, draw(0, 1), draw(2, 1), LOOK)[8:10], [3, 2])


class LookAtTests(PlantCase):
    def test_no_test(self):
        self.assertEqual(last(lay(), intake(1000), tick(5), LOOK)[10:], [1, 0, 0])
        self.assertEqual(last(lay(), intake(1000), tick(5), TEST, EXCHANGE, LOOK)[10:], [1, 0, 0])

    def test_a_test_that_holds(self):
        self.assertEqual(last(lay(), intake(1000), TEST, LOOK)[10:], [0, 1, 0])
        self.assertEqual(last(lay(), intake(1000), tick(5), TEST, LOOK)[10:], [0, 1, 5])
        self.assertEqual(last(lay(holds=5), intake(1000), tick(5), TEST, tick(4), LOOK)[10:], [0, 1, 5])

    def test_a_test_that_is_too_old_for_a_gulp(self):
        self.assertEqual(last(lay(holds=5), intake(1000), tick(5), TEST, tick(5), LOOK)[10:], [1, 1, 5])
        self.assertEqual(last(lay(holds=5), intake(1000), tick(5), TEST, tick(3600), LOOK)[10:], [1, 1, 5])

    def test_the_newer_test_stands_in_place_of_the_older(self):
        self.assertEqual(last(lay(), intake(1000), TEST, tick(9), TEST, LOOK)[10:], [0, 1, 9])

    def test_a_test_that_the_first_filter_could_not_take(self):
        worn = [lay(gulp=10, holds=2, carbon=200), intake(1000, 0, 10), TEST, tick(2)]
        self.assertEqual(last(*worn, LOOK)[10:], [1, 1, 0])
        self.assertEqual(last(*worn, TEST, LOOK)[10:], [1, 0, 0])

    def test_each_reason(self):
        self.assertEqual(last(lay(), LOOK)[10], 1)
        self.assertEqual(last(lay(soft=200), intake(40), TEST, tick(1), LOOK)[10], 2)
        self.assertEqual(last(lay(), intake(39), TEST, tick(1), LOOK)[10], 3)
        self.assertEqual(last(lay(store=29), intake(40), TEST, tick(1), LOOK)[10], 4)
        self.assertEqual(last(lay(store=30), intake(40), TEST, tick(1), LOOK)[10], 0)

    def test_the_reason_is_what_tick_answers(self):
        plant = busy_plant()
        for second in range(10):
            answer = ask_on(plant, tick(1))[0]
            told = ask_on(plant, LOOK)[0]
            self.assertEqual([told[10], told[7]], answer[1:])

    def test_the_last_time(self):
        plant = plant_after(lay())
        plant.time = LAST_TIME
        ask_on(plant, TEST)
        self.assert_told(plant, LOOK, [LAST_TIME, 10000, 9999, 10000, 0, 0, 0, 3, 0, 0, 3, 1, LAST_TIME])

    def test_changes_nothing(self):
        plant = busy_plant()
        self.assert_told(plant, LOOK, ask_on(plant, LOOK)[0])
