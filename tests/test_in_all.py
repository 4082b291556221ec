"""What the document says "In all", over lists of many calls in mixed order."""

import random

from tests.helper import (
    EXCHANGE, RENEW, TEST, PlantCase, ask_on, brine, dose, draw, flat, intake, lay, loop, plant_after, snapshot, tick,
)
from watertaps.plant import run
from watertaps.state import Plant
from watertaps.water import CHLORINE, DISINFECTANT, HARDNESS, SALT, empty_water, joined

LISTS = 120


def mixed_plan(chance):
    gulp = chance.choice([1, 7, 13, 40])
    holds = chance.randint(1, 30)
    hmax = chance.randint(1, 20)
    cmax = chance.randint(1, 20)
    return {
        "cells": chance.randint(2, 5), "cell": chance.choice([1, 3, 10, 37]), "raw": chance.choice([500, 5000]),
        "store": chance.choice([100, 500, 2000]), "gulp": gulp, "holds": holds,
        "soft": gulp * hmax * chance.randint(1, 30) + chance.randint(0, 50),
        "carbon": holds * gulp * cmax + chance.randint(0, 100), "hmax": hmax, "cmax": cmax,
        "through": chance.choice([1, 500, 733, 1000]), "back": chance.choice([0, 321, 900, 1000]),
    }


def mixed_call(chance, plan):
    place = chance.choice([1, 1, 2, 2, 2, 2, 3, 3, 3, 4, 5, 6, 7, 8, 9, 9, 9])
    if place == 1:
        return intake(chance.randint(1, chance.choice([10, 300])), chance.randint(0, plan["hmax"]),
                      chance.randint(0, plan["cmax"]), chance.randint(0, 1000))
    if place == 2:
        return tick(chance.choice([1, 2, 5, chance.randint(1, 60)]))
    if place == 6:
        return brine(chance.choice([1, 100, 10000]))
    if place == 7:
        return loop(chance.choice([0, 1, 1, 1]))
    if place == 8:
        # Mostly little, else the loop would never be clean again.
        return dose(chance.choice([1, 1, 1, 2, 500]))
    if place == 9:
        return draw(chance.randint(0, plan["cells"] - 1), chance.choice([1, 2, plan["cell"]]))
    return [place]


def mixed_lists():
    """Lists that are the same in every run."""
    for seed in range(LISTS):
        chance = random.Random(seed)
        plan = mixed_plan(chance)
        calls = [mixed_call(chance, plan) for number in range(chance.randint(20, 150))]
        yield seed, [lay(**plan)] + calls


def all_of(waters):
    whole = empty_water()
    for water in waters:
        whole = joined(whole, water)
    return whole


class InAll(PlantCase):
    def check_waters(self, plant, seed):
        for water in [plant.store] + plant.loop_cells + [one.water for one in plant.draws]:
            self.assertEqual(water.amounts[CHLORINE], 0, seed)
            self.assertEqual(water.amounts[HARDNESS], 0, seed)
        for one in plant.draws:
            self.assertEqual(one.water.amounts[DISINFECTANT], 0, seed)

    def check_nothing_is_lost(self, plant, seed):
        now = all_of([plant.raw, plant.store, plant.drained] + plant.loop_cells + [one.water for one in plant.draws])
        came = all_of(plant.batches)
        wanted = list(came.amounts)
        wanted[HARDNESS] -= plant.hardness_taken
        wanted[CHLORINE] -= plant.chlorine_taken
        wanted[SALT] += plant.hardness_taken
        wanted[DISINFECTANT] += plant.disinfectant_put
        self.assertEqual(snapshot(now)["bag"], snapshot(came)["bag"], seed)
        self.assertEqual(now.amounts, wanted, seed)

    def test_waters_behind_every_call(self):
        draws = 0
        second_used = 0
        for seed, calls in mixed_lists():
            plant = Plant()
            for call in calls:
                ask_on(plant, call)
                self.check_waters(plant, seed)
                self.check_nothing_is_lost(plant, seed)
                self.assertGreaterEqual(min(plant.first_left, plant.second_left, plant.softener_left), 0, seed)
            draws += len(plant.draws)
            second_used += plant.second_left < plant.plan.carbon
        # The lists must come to what is promised here, or they would show nothing.
        self.assertGreater(draws, 100)
        self.assertGreater(second_used, 0)

    def test_two_ticks_do_what_one_does(self):
        for seed, calls in mixed_lists():
            chance = random.Random(seed)
            whole, halves = Plant(), Plant()
            for call in calls:
                if call[0] != 2 or call[1] == 1:
                    self.assertEqual(ask_on(whole, call), ask_on(halves, call), seed)
                    continue
                first = chance.randint(1, call[1] - 1)
                one = ask_on(whole, call)[0]
                a, b = ask_on(halves, tick(first), tick(call[1] - first))
                self.assertEqual(one, [a[0] + b[0]] + b[1:], seed)
                self.assertEqual(snapshot(whole), snapshot(halves), seed)

    def test_two_long_ticks_do_what_one_does(self):
        calls = [
            lay(raw=100000, store=90000, holds=2000, soft=10 ** 7, carbon=10 ** 7),
            intake(99999, 3, 4, 5), TEST, loop(1),
        ]
        whole = plant_after(*calls, tick(3600))
        for first in (1, 1800, 1999, 2000, 2001, 3599):
            self.assertEqual(snapshot(plant_after(*calls, tick(first), tick(3600 - first))), snapshot(whole))

    def test_gulps_only_in_the_first_seconds_behind_a_test(self):
        gulps = 0
        for seed, calls in mixed_lists():
            plant = Plant()
            holds = calls[0][6]
            time = 0
            tested = None
            for call in calls:
                if call[0] == 2:
                    for second in range(call[1]):
                        taken = ask_on(plant, tick(1))[0][0]
                        if taken:
                            self.assertIsNotNone(tested, seed)
                            self.assertLess(time, tested + holds, seed)
                        gulps += taken
                        time += 1
                    continue
                answer = ask_on(plant, call)[0]
                if call == TEST:
                    tested = time if answer == [1] else None
                elif call == EXCHANGE:
                    tested = None
        self.assertGreater(gulps, 1000)

    def test_a_list_at_once_is_its_calls_one_by_one(self):
        for seed, calls in mixed_lists():
            plant, other = Plant(), Plant()
            self.assertEqual(run(plant, flat(calls)), flat([run(other, call) for call in calls]), seed)
            self.assertEqual(snapshot(plant), snapshot(other), seed)

    def test_a_refusal_changes_nothing(self):
        seen = {}
        for seed, calls in mixed_lists():
            plant = Plant()
            for call in calls + [RENEW]:
                before = snapshot(plant)
                answer = ask_on(plant, call)[0]
                if answer[0] < 0:
                    self.assertEqual(len(answer), 1, seed)
                    self.assertEqual(snapshot(plant), before, (seed, call))
                    seen[answer[0]] = True
        self.assertTrue({-6, -7, -9} <= set(seen), seen)
