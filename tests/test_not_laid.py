"""-2 of every call but lay, on a plant that isn't laid."""

from tests.helper import (
    EXCHANGE, HIGHEST, LOOK, LOWEST, RENEW, SUMS, TEST, PlantCase, ahead, ask, ask_on, batch, brine, cell, dose, drain,
    draw, drawn, intake, lay, loop, since, snapshot, tick, water, who,
)
from watertaps.state import Plant

GOOD = [
    intake(1), tick(1), TEST, EXCHANGE, RENEW, brine(1), loop(1), dose(1), draw(0, 1), drain(0, 1), drain(2, 1), LOOK,
    water(0), cell(0), batch(1), who(1), drawn(1), since(0), SUMS, ahead(1),
]
# Each of these would be refused by -1 on a plant that is laid.
BAD = [
    call(number)
    for call in (intake, tick, brine, loop, dose, water, cell, batch, who, drawn, since, ahead)
    for number in (LOWEST, -1, HIGHEST)
] + [draw(-1, 1), draw(0, 0), draw(HIGHEST, HIGHEST), drain(3, 1), drain(-1, 1), drain(0, 0), drain(LOWEST, LOWEST)]


class NotLaid(PlantCase):
    def test_every_call_but_lay(self):
        self.assertEqual(sorted({call[0] for call in GOOD}), list(range(1, 20)))
        for call in GOOD:
            self.assert_refused(Plant(), call, -2)

    def test_ahead_of_a_wrong_argument(self):
        for call in BAD:
            self.assert_refused(Plant(), call, -2)
            self.assertEqual(ask(lay(), call), [[0], [-1]], call)

    def test_a_lay_that_was_refused_lays_nothing(self):
        for wrong in (lay(cells=1), lay(carbon=999), lay(soft=199)):
            answered = ask(wrong, *GOOD)
            self.assertLess(answered[0][0], 0)
            self.assertEqual(answered[1:], [[-2]] * len(GOOD))

    def test_a_plant_is_as_new_behind_all_of_them(self):
        plant = Plant()
        ask_on(plant, *GOOD, *BAD, lay())
        other = Plant()
        ask_on(other, lay())
        self.assertEqual(snapshot(plant), snapshot(other))
        self.assertEqual(ask_on(plant, LOOK), [[0, 10000, 10000, 10000, 0, 0, 0, 3, 0, 0, 1, 0, 0]])
