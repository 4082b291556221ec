"""Point 1, intake."""

from tests.helper import (
    HIGHEST, LOWEST, TEN_TO_15, PlantCase, ask, ask_on, busy_plant, intake, lay, plant_after, snapshot,
)

WIDE = lay(raw=1000000000, hmax=8, cmax=6)


class Intake(PlantCase):
    def test_batches_are_numbered_and_joined_to_the_raw_tank(self):
        plant = plant_after(lay())
        self.assertEqual(ask_on(plant, intake(25, 4, 3, 7), intake(16, 1, 5, 2)), [[1], [2]])
        self.assert_water(plant.raw, [2, 1, 25, 2, 16], [116, 155, 207, 0])
        self.assert_water(plant.batches[0], [1, 1, 25], [100, 75, 175, 0])
        self.assert_water(plant.batches[1], [1, 2, 16], [16, 80, 32, 0])

    def test_nothing_else_changes(self):
        plant = busy_plant()
        raw = snapshot(plant.raw)
        batches = snapshot(plant.batches)
        a, b, c, d = raw["amounts"]
        self.assert_changed(plant, intake(5, 1, 2, 3), [3], {
            "raw": {"bag": [3] + raw["bag"][1:] + [3, 5], "volume": raw["volume"] + 5,
                    "amounts": [a + 5, b + 10, c + 15, d]},
            "batches": batches + [{"bag": [1, 3, 5], "volume": 5, "amounts": [5, 10, 15, 0]}],
        })

    def test_each_range(self):
        for call in (intake(1, 0, 0, 0), intake(1000000000, 8, 6, 1000)):
            self.assertEqual(ask(WIDE, call), [[0], [1]])
        for call in (
            intake(0), intake(1000000001), intake(LOWEST), intake(HIGHEST),
            intake(1, -1), intake(1, 9), intake(1, LOWEST), intake(1, HIGHEST),
            intake(1, 0, -1), intake(1, 0, 7), intake(1, 0, LOWEST), intake(1, 0, HIGHEST),
            intake(1, 0, 0, -1), intake(1, 0, 0, 1001), intake(1, 0, 0, LOWEST), intake(1, 0, 0, HIGHEST),
        ):
            self.assert_refused(plant_after(WIDE), call, -1)

    def test_as_much_as_can_come_in(self):
        plant = plant_after(
            lay(raw=1000000000, hmax=1000, cmax=1000, soft=TEN_TO_15, carbon=TEN_TO_15),
            intake(1000000000, 1000, 1000, 1000),
        )
        self.assert_water(plant.raw, [1, 1, 1000000000], [10 ** 12, 10 ** 12, 10 ** 12, 0])

    def test_no_room(self):
        plant = plant_after(lay(raw=1000))
        self.assert_refused(plant, intake(1001), -6)
        self.assert_taken(plant, intake(600), [1])
        self.assert_refused(plant, intake(401), -6)
        self.assert_taken(plant, intake(400), [2])
        self.assert_refused(plant, intake(1), -6)

    def test_64_batches(self):
        plant = plant_after(lay(raw=1000))
        for number in range(1, 65):
            self.assert_taken(plant, intake(1), [number])
        self.assert_refused(plant, intake(1), -8)

    def test_the_first_refusal_is_told(self):
        plant = plant_after(lay(raw=64), *[intake(1) for number in range(64)])
        self.assert_refused(plant, intake(0), -1)
        self.assert_refused(plant, intake(1), -8)
        self.assert_refused(plant_after(lay(raw=1)), intake(2, 11), -1)
