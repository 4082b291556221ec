"""Point 19, ahead."""

from tests.helper import (
    HIGHEST, LAST_TIME, LOWEST, TEST, PlantCase, ahead, ask, ask_on, busy_plant, dose, drain, draw, intake, last, lay,
    loop, plant_after, tick,
)


class Ahead(PlantCase):
    def test_what_tick_would_answer(self):
        self.assertEqual(last(lay(), ahead(1)), [0, 1, 3])
        self.assertEqual(last(lay(), intake(1000), TEST, ahead(3)), [3, 0, 3])
        self.assertEqual(last(lay(cells=32), intake(1000), TEST, ahead(9)), [5, 1, 32])
        self.assertEqual(last(lay(), intake(1000), TEST, tick(1), dose(1), ahead(1)), [1, 0, 0])
        self.assertEqual(last(lay(store=29), intake(1000), TEST, ahead(4)), [1, 4, 3])
        self.assertEqual(last(lay(soft=600), intake(1000), TEST, ahead(4)), [3, 2, 3])
        self.assertEqual(last(lay(), intake(39), TEST, ahead(4)), [1, 3, 3])

    def test_what_tick_then_does(self):
        for k in (1, 2, 3, 4, 5, 6, 20, 3600):
            for changes in ({}, {"through": 1000}, {"store": 60}, {"holds": 4, "back": 0}):
                plant = busy_plant(**changes)
                ask_on(plant, intake(50, 1, 1, 1))
                told = ask_on(plant, ahead(k))[0]
                self.assert_taken(plant, tick(k), told)

    def test_the_clean_count_ahead(self):
        calls = [lay(), intake(60), TEST, tick(3), dose(1), loop(1)]
        self.assertEqual([answer[2] for answer in ask(*calls, *[ahead(k) for k in (1, 2, 3, 4)])[6:]], [1, 2, 3, 3])
        # Of 1 in 15 nothing goes with 10; with the other 5 all of it does.
        calls = [lay(cells=4), intake(20), TEST, tick(1), dose(1), loop(1)]
        self.assertEqual([answer[2] for answer in ask(*calls, *[ahead(k) for k in (1, 2, 3)])[6:]], [1, 0, 1])

    def test_changes_nothing(self):
        for k in (1, 7, 3600):
            plant = busy_plant()
            ask_on(plant, intake(50, 1, 1, 1), TEST)
            self.assert_told(plant, ahead(k), ask_on(busy_plant(), intake(50, 1, 1, 1), TEST, tick(k))[-1])

    def test_again_and_again(self):
        plant = busy_plant()
        ask_on(plant, intake(50, 1, 1, 1), TEST)
        once = ask_on(plant, ahead(2))
        self.assertEqual(ask_on(plant, ahead(2), ahead(5), ahead(2))[2:], once)
        self.assertEqual(ask_on(plant, tick(2)), once)

    def test_each_call_behind_it_is_as_without_it(self):
        calls = [
            lay(), intake(100, 4, 3, 7), TEST, loop(1), tick(3), draw(0, 4), intake(20, 1, 1, 1), drain(1, 3), TEST,
            tick(2), dose(1), tick(4), drain(2, 1), tick(9),
        ]
        mixed = [call for one in calls for call in (one, ahead(4))]
        self.assertEqual(ask(*mixed)[::2], ask(*calls))

    def test_range(self):
        self.assertEqual(last(lay(), ahead(1)), [0, 1, 3])
        self.assertEqual(last(lay(), ahead(3600)), [0, 1, 3])
        for k in (0, 3601, -1, LOWEST, HIGHEST):
            self.assert_refused(busy_plant(), ahead(k), -1)
            self.assert_refused(plant_after(lay()), ahead(k), -1)

    def test_the_last_time(self):
        # No list of 400 calls gets there by ticks, so the time is set.
        plant = plant_after(lay())
        plant.time = LAST_TIME - 5
        self.assert_told(plant, ahead(4), [0, 1, 3])
        self.assert_told(plant, ahead(5), [0, 1, 3])
        self.assert_refused(plant, ahead(6), -8)
        self.assert_refused(plant, ahead(3600), -8)
        plant.time = LAST_TIME
        self.assert_refused(plant, ahead(1), -8)
        # A wrong argument is told ahead of the time.
        self.assert_refused(plant, ahead(0), -1)
        self.assert_refused(plant, ahead(3601), -1)

    def test_a_gulp_up_to_the_last_time(self):
        plant = plant_after(lay(), intake(1000))
        plant.time = LAST_TIME - 2
        ask_on(plant, TEST)
        self.assert_told(plant, ahead(2), [2, 0, 3])
        self.assert_refused(plant, ahead(3), -8)
        self.assert_taken(plant, tick(2), [2, 0, 3])
