"""A copy of a plant, on which ahead looks ahead."""

from tests.helper import (
    EXCHANGE, RENEW, TEST, PlantCase, ask_on, brine, busy_plant, dose, drain, draw, intake, lay, loop, plant_after,
    snapshot, tick,
)
from watertaps.state import Plant, copy_of


class Copy(PlantCase):
    def test_is_just_like_the_plant(self):
        for plant in (busy_plant(), plant_after(lay())):
            self.assertEqual(snapshot(copy_of(plant)), snapshot(plant))

    def test_no_value_of_the_busy_plant_is_a_new_ones(self):
        # Else the test above would miss a value that isn't copied.
        new = snapshot(Plant())
        self.assertEqual([name for name, value in snapshot(busy_plant()).items() if value == new[name]], [])

    def test_goes_on_by_itself(self):
        changes = [draw(0, 1), intake(1), TEST, dose(5), tick(3), drain(0, 1), drain(2, 1), EXCHANGE, RENEW, brine(1)]
        for call in changes + [loop(0)]:
            plant = busy_plant()
            before = snapshot(plant)
            other = copy_of(plant)
            ask_on(other, call)
            self.assertNotEqual(snapshot(other), before, call)
            self.assertEqual(snapshot(plant), before, call)
