"""Points 16 and 17, drawn and since."""

from tests.helper import (
    HIGHEST, LAST_TIME, LOWEST, TEST, PlantCase, ask_on, busy_plant, dose, drain, draw, drawn, intake, lay, loop,
    plant_after, since, tick,
)

# The first cell has 3 millilitres of batch 1 and 7 of batch 2, with 20 salt; the time is 4.
MIXED = [
    lay(cells=2, back=0), intake(20, 0, 0, 2), TEST, tick(1), loop(1), tick(1), loop(0), intake(20, 0, 0, 2),
    tick(1), loop(1), tick(1), loop(0),
]
# The three cells have 10 millilitres each; the time is 3.
ROUND = [lay(), intake(60), TEST, loop(1), tick(3), loop(0)]


class Drawn(PlantCase):
    def test_tap_and_time_and_whole_water(self):
        plant = plant_after(*MIXED, draw(0, 5), tick(7), draw(1, 10))
        self.assert_told(plant, drawn(1), [0, 4, 5, 0, 0, 10, 0, 2, 1, 2, 2, 3])
        self.assert_told(plant, drawn(2), [1, 11, 10, 0, 0, 20, 0, 1, 1, 10])

    def test_a_batch_that_gave_nothing_is_not_told(self):
        plant = plant_after(*MIXED, draw(0, 9), draw(0, 1))
        # 9 of 3 and 7 are 2.7 and 6.3, so 3 and 6.
        self.assert_told(plant, drawn(1), [0, 4, 9, 0, 0, 18, 0, 2, 1, 3, 2, 6])
        self.assert_told(plant, drawn(2), [0, 4, 1, 0, 0, 2, 0, 1, 2, 1])

    def test_stays_whatever_comes_behind(self):
        plant = plant_after(*MIXED, draw(0, 5))
        told = ask_on(plant, drawn(1))
        ask_on(plant, dose(100), loop(1), tick(50), drain(0, 100), drain(1, 100), drain(2, 1), intake(30))
        self.assertEqual(ask_on(plant, drawn(1)), told)

    def test_range(self):
        for d in (0, -1, 513, LOWEST, HIGHEST):
            self.assert_refused(busy_plant(), drawn(d), -1)
            self.assert_refused(plant_after(lay()), drawn(d), -1)

    def test_no_such_draw(self):
        self.assert_refused(plant_after(lay()), drawn(1), -10)
        plant = plant_after(*MIXED, draw(0, 5), draw(0, 1))
        self.assert_refused(plant, drawn(3), -10)
        self.assert_refused(plant, drawn(512), -10)
        # A draw that was refused is none.
        self.assertEqual(ask_on(plant, draw(0, 5), drawn(3)), [[-6], [-10]])

    def test_512_draws(self):
        # A list of 400 calls can't make them, so the plant is asked further.
        plant = plant_after(
            lay(cell=600, gulp=600, raw=600, store=600, soft=6000, carbon=30000, through=1000), intake(600), TEST,
            loop(1), tick(1), loop(0),
        )
        for number in range(1, 512):
            ask_on(plant, draw(0, 1))
        self.assert_refused(plant, drawn(512), -10)
        ask_on(plant, draw(0, 3))
        self.assert_told(plant, drawn(511), [0, 1, 1, 0, 0, 0, 0, 1, 1, 1])
        self.assert_told(plant, drawn(512), [0, 1, 3, 0, 0, 0, 0, 1, 1, 3])
        self.assert_refused(plant, drawn(513), -1)
        self.assert_told(plant, since(1), [512] + list(range(1, 513)))


class Since(PlantCase):
    def test_at_a_draws_own_time_and_one_later(self):
        plant = plant_after(*ROUND, draw(2, 1), draw(0, 2), tick(1), draw(2, 3), tick(6), draw(1, 1))
        self.assert_told(plant, since(0), [4, 1, 2, 3, 4])
        self.assert_told(plant, since(2), [4, 1, 2, 3, 4])
        self.assert_told(plant, since(3), [4, 1, 2, 3, 4])
        self.assert_told(plant, since(4), [2, 3, 4])
        self.assert_told(plant, since(5), [1, 4])
        self.assert_told(plant, since(10), [1, 4])
        self.assert_told(plant, since(11), [0])
        self.assert_told(plant, since(LAST_TIME), [0])

    def test_no_draw(self):
        self.assert_told(plant_after(lay()), since(0), [0])
        self.assert_told(plant_after(*ROUND), since(0), [0])

    def test_a_time_that_is_still_to_come(self):
        plant = plant_after(*ROUND, draw(0, 1))
        self.assert_told(plant, since(100), [0])
        ask_on(plant, tick(97), draw(0, 1))
        self.assert_told(plant, since(100), [1, 2])

    def test_a_draw_at_the_last_time(self):
        plant = plant_after(*ROUND, draw(0, 1))
        plant.time = LAST_TIME
        ask_on(plant, draw(0, 1))
        self.assert_told(plant, since(LAST_TIME), [1, 2])
        self.assert_told(plant, since(LAST_TIME - 1), [1, 2])
        self.assertEqual(ask_on(plant, drawn(2))[0][:2], [0, LAST_TIME])

    def test_range(self):
        for t in (-1, LAST_TIME + 1, LOWEST, HIGHEST):
            self.assert_refused(busy_plant(), since(t), -1)
            self.assert_refused(plant_after(lay()), since(t), -1)
