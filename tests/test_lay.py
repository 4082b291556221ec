"""Point 0, lay; and that every other call is refused ahead of it."""

from tests.helper import (
    EXCHANGE, HIGHEST, LOWEST, PLAN, RENEW, TEN_TO_15, TEST, PlantCase,
    ask, brine, busy_plant, dose, draw, intake, lay, loop, plant_after, snapshot, tick,
)
from watertaps.state import Plant

RANGES = {
    "cells": (2, 32), "cell": (1, 1000000), "raw": (1, 1000000000), "store": (1, 1000000000),
    "gulp": (1, 1000000), "holds": (1, 86400), "soft": (1, TEN_TO_15), "carbon": (1, TEN_TO_15),
    "hmax": (1, 1000), "cmax": (1, 1000), "through": (1, 1000), "back": (0, 1000),
}
LOWS = {name: low for name, (low, high) in RANGES.items()}
HIGHS = {name: high for name, (low, high) in RANGES.items()}
# With these neither -4 nor -5 is due, whatever the other ten are.
ROOMY = {**PLAN, "soft": TEN_TO_15, "carbon": TEN_TO_15}


class Lay(PlantCase):
    def test_what_a_laid_plant_has(self):
        plant = plant_after(lay())
        empty = {"bag": [0], "volume": 0, "amounts": [0, 0, 0, 0]}
        self.assertEqual(snapshot(plant), {
            "plan": PLAN, "time": 0, "raw": empty, "store": empty, "loop_cells": [empty] * 3, "drained": empty,
            "softener_left": 10000, "since_renewed": 0, "first_left": 10000, "second_left": 10000,
            "test_time": None, "brine": 0, "loop_on": False, "clean_count": 3, "batches": [], "draws": [],
            "chlorine_taken": 0, "doses": 0, "hardness_taken": 0, "disinfectant_put": 0,
        })

    def test_all_at_their_first_and_all_at_their_last(self):
        self.assertEqual(ask(lay(**LOWS)), [[0]])
        self.assertEqual(ask(lay(**HIGHS)), [[0]])

    def test_each_range(self):
        for name, (low, high) in RANGES.items():
            for number in (low, high):
                changed = {**ROOMY, name: number}
                if name in ("soft", "carbon") and number == low:
                    changed = {**LOWS, name: number}
                self.assertEqual(ask(lay(**changed)), [[0]], (name, number))
            for number in (low - 1, high + 1, LOWEST, HIGHEST):
                self.assert_refused(Plant(), lay(**{**ROOMY, name: number}), -1)

    def test_laid_already(self):
        self.assert_refused(plant_after(lay()), lay(), -3)
        self.assert_refused(busy_plant(), lay(cells=4), -3)

    def test_too_little_carbon(self):
        # 7 seconds of 20 millilitres with 9 in each
        self.assert_refused(Plant(), lay(holds=7, gulp=20, cmax=9, carbon=1259), -4)
        self.assertEqual(ask(lay(holds=7, gulp=20, cmax=9, carbon=1260)), [[0]])

    def test_too_little_softener(self):
        self.assert_refused(Plant(), lay(gulp=20, hmax=9, soft=179), -5)
        self.assertEqual(ask(lay(gulp=20, hmax=9, soft=180)), [[0]])

    def test_the_first_refusal_is_told(self):
        self.assert_refused(plant_after(lay()), lay(cells=1), -1)
        self.assert_refused(plant_after(lay()), lay(carbon=1, soft=1), -3)
        self.assert_refused(Plant(), lay(carbon=0, soft=1), -1)
        self.assert_refused(Plant(), lay(carbon=1, soft=1), -4)

    def test_a_refused_lay_lays_nothing(self):
        self.assertEqual(ask(lay(cells=1), TEST, lay(carbon=1), TEST, lay(soft=1), TEST, lay(), TEST),
                         [[-1], [-2], [-4], [-2], [-5], [-2], [0], [1]])


class NotLaid(PlantCase):
    def test_every_other_call_is_refused(self):
        for call in (intake(1), tick(1), TEST, EXCHANGE, RENEW, brine(1), loop(1), dose(1), draw(0, 1)):
            self.assert_refused(Plant(), call, -2)

    def test_even_with_a_wrong_argument(self):
        for call in (intake(0), tick(0), brine(0), loop(2), dose(0), draw(-1, 0), draw(HIGHEST, LOWEST)):
            self.assert_refused(Plant(), call, -2)
