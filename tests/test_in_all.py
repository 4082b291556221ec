"""What the document says "In all", over lists of many calls of all kinds in mixed order."""

import random

from tests.helper import (
    EXCHANGE, LAST_TIME, LOOK, RENEW, SUMS, TEST, PlantCase, ahead, ask, ask_on, batch, brine, cell, dose, drain, draw,
    drawn, flat, intake, lay, loop, plant_after, since, snapshot, tick, water, who,
)
from watertaps.plant import answers, run
from watertaps.state import Plant

LISTS = 120
READINGS = range(11, 20)
OUTSIDE = (-(2 ** 63), -1, 10 ** 16, 2 ** 63 - 1)
HARDNESS, CHLORINE, SALT, DISINFECTANT = range(4)


def mixed_plan(chance):
    gulp = chance.choice([1, 7, 13, 40])
    holds = chance.randint(1, 30)
    hmax = chance.randint(1, 20)
    cmax = chance.randint(1, 20)
    return {
        "cells": chance.randint(2, 5), "cell": chance.choice([1, 3, 10, 37]), "raw": chance.choice([500, 5000]),
        "store": chance.choice([100, 500, 2000]), "gulp": gulp, "holds": holds,
        "soft": gulp * hmax * chance.randint(1, 30) + chance.randint(0, 50),
        "carbon": holds * gulp * cmax + chance.randint(0, 100), "hmax": hmax, "cmax": cmax,
        "through": chance.choice([1, 500, 733, 1000]), "back": chance.choice([0, 321, 900, 1000]),
    }


def mixed_change(chance, plan):
    place = chance.choice([0, 1, 1, 1, 2, 2, 2, 2, 2, 2, 3, 3, 3, 3, 4, 5, 6, 7, 7, 8, 9, 9, 9, 9, 9, 10])
    if place == 0:
        return lay()
    if place == 1:
        return intake(chance.randint(1, chance.choice([10, 300])), chance.randint(0, plan["hmax"]),
                      chance.randint(0, plan["cmax"]), chance.randint(0, 1000))
    if place == 2:
        return tick(chance.choice([1, 2, 5, chance.randint(1, 60)]))
    if place == 6:
        return brine(chance.choice([1, 100, 10000]))
    if place == 7:
        return loop(chance.choice([0, 1, 1, 1]))
    if place == 8:
        # Mostly little, else the loop would never be clean again.
        return dose(chance.choice([1, 1, 1, 2, 500]))
    if place == 9:
        return draw(chance.randint(0, plan["cells"] - 1), chance.choice([1, 2, plan["cell"]]))
    if place == 10:
        return drain(chance.choice([0, 1, 2]), chance.choice([1, 7, 50, 400]))
    return [place]


def mixed_reading(chance, plan):
    return chance.choice([
        LOOK, SUMS, water(chance.randint(0, 2)), cell(chance.randint(0, plan["cells"] - 1)),
        batch(chance.randint(1, 12)), who(chance.randint(1, 12)), drawn(chance.randint(1, 12)),
        since(chance.randint(0, 300)), ahead(chance.choice([1, 2, 5, chance.randint(1, 60)])),
    ])


def mixed_call(chance, plan):
    call = chance.choice([mixed_change, mixed_change, mixed_reading])(chance, plan)
    if len(call) > 1 and chance.randint(1, 25) == 1:
        wrong = chance.randrange(1, len(call))
        return call[:wrong] + [chance.choice(OUTSIDE)] + call[wrong + 1:]
    return call


def mixed_lists():
    """Lists that are the same in every run; some have calls ahead of lay."""
    for seed in range(LISTS):
        chance = random.Random(seed)
        plan = mixed_plan(chance)
        before = [mixed_reading(chance, plan) for number in range(chance.choice([0, 0, 0, 3]))]
        calls = [mixed_call(chance, plan) for number in range(chance.randint(20, 150))]
        yield seed, plan, before + [lay(**plan)] + calls


def batches_of(told):
    """Millilitres by batches of a whole water."""
    return dict(zip(told[6::2], told[7::2]))


class Told:
    """All that the calls tell of where water is, and how much of what."""

    def __init__(self, plant, cells):
        look = ask_on(plant, LOOK)[0]
        numbers = range(1, look[8] + 1)
        self.raw, self.store, self.drained = ask_on(plant, water(0), water(1), water(2))
        self.cells = ask_on(plant, *[cell(i) for i in range(cells)])
        self.draws = [answer[2:] for answer in ask_on(plant, *[drawn(d) for d in range(1, look[9] + 1)])]
        self.batches = ask_on(plant, *[batch(b) for b in numbers])
        self.who = ask_on(plant, *[who(b) for b in numbers])
        self.since = ask_on(plant, since(0))[0]
        self.sums = ask_on(plant, SUMS)[0]
        self.places = [[self.raw], [self.store], self.cells, self.draws, [self.drained]]


class Came:
    """What the calls that were taken have brought into the plant."""

    def __init__(self):
        self.batches = []
        self.amounts = [0, 0, 0, 0]
        self.doses = 0
        self.disinfectant = 0

    def note(self, call, answer):
        if answer[0] < 0:
            return
        if call[0] == 1:
            self.batches.append(call[1])
            for thing in (HARDNESS, CHLORINE, SALT):
                self.amounts[thing] += call[2 + thing] * call[1]
        if call == TEST:
            self.doses += answer[0]
        if call[0] == 8:
            self.disinfectant += call[1]


class InAll(PlantCase):
    def check_waters(self, told, seed):
        for held in [told.store] + told.cells + told.draws:
            self.assertEqual([held[1], held[2]], [0, 0], seed)
        for held in told.draws:
            self.assertEqual(held[4], 0, seed)

    def check_millilitres(self, told, came, seed):
        self.assertEqual([six[0] for six in told.batches], came.batches, seed)
        for number, six in enumerate(told.batches, start=1):
            self.assertEqual(six[0], sum(six[1:]), seed)
            found = [sum(batches_of(held).get(number, 0) for held in waters) for waters in told.places]
            self.assertEqual(six[1:], found, seed)
            pairs = [(d, batches_of(held).get(number, 0)) for d, held in enumerate(told.draws, start=1)]
            wanted = [pair for pair in pairs if pair[1] > 0]
            self.assertEqual(told.who[number - 1], [len(wanted)] + flat(wanted), seed)
        for held in [one for waters in told.places for one in waters]:
            self.assertEqual(held[0], sum(batches_of(held).values()), seed)
            self.assertLessEqual(len(batches_of(held)), len(came.batches), seed)

    def check_amounts(self, told, came, seed):
        chlorine, doses, hardness, disinfectant = told.sums[24:]
        self.assertEqual([doses, disinfectant], [came.doses, came.disinfectant], seed)
        more = [-hardness, -chlorine, hardness, disinfectant]
        for thing in (HARDNESS, CHLORINE, SALT, DISINFECTANT):
            six = told.sums[6 * thing:6 * thing + 6]
            self.assertEqual(six[0], came.amounts[thing], seed)
            self.assertEqual(six[0] + more[thing], sum(six[1:]), seed)
            self.assertEqual(six[1:], [sum(held[1 + thing] for held in waters) for waters in told.places], seed)

    def test_waters_behind_every_call(self):
        draws = 0
        second_used = 0
        chlorine_drained = 0
        for seed, plan, calls in mixed_lists():
            plant, came = Plant(), Came()
            for call in calls:
                came.note(call, ask_on(plant, call)[0])
                if plant.plan is not None and call[0] not in READINGS:
                    told = Told(plant, plan["cells"])
                    self.check_waters(told, seed)
                    self.check_millilitres(told, came, seed)
                    self.check_amounts(told, came, seed)
                    self.assertEqual(told.since, [len(told.draws)] + list(range(1, len(told.draws) + 1)), seed)
                    self.assertGreaterEqual(min(ask_on(plant, LOOK)[0]), 0, seed)
            draws += len(told.draws)
            second_used += ask_on(plant, LOOK)[0][3] < plan["carbon"]
            chlorine_drained += told.sums[11] > 0
        # The lists must come to what is promised here, or they would show nothing.
        self.assertGreater(draws, 100)
        self.assertGreater(second_used, 0)
        self.assertGreater(chlorine_drained, 20)

    def test_two_ticks_do_what_one_does(self):
        split = 0
        for seed, plan, calls in mixed_lists():
            chance = random.Random(seed)
            whole, halves = Plant(), Plant()
            for call in calls:
                if call[0] != 2 or not 2 <= call[1] <= 3600:
                    self.assertEqual(ask_on(whole, call), ask_on(halves, call), seed)
                    continue
                first = chance.randint(1, call[1] - 1)
                one = ask_on(whole, call)[0]
                a, b = ask_on(halves, tick(first), tick(call[1] - first))
                self.assertEqual(one, [a[0] + b[0]] + b[1:], seed)
                self.assertEqual(snapshot(whole), snapshot(halves), seed)
                split += 1
        self.assertGreater(split, 500)

    def test_two_long_ticks_do_what_one_does(self):
        calls = [
            lay(raw=100000, store=90000, holds=2000, soft=10 ** 7, carbon=10 ** 7),
            intake(99999, 3, 4, 5), TEST, loop(1),
        ]
        whole = plant_after(*calls, tick(3600))
        for first in (1, 1800, 1999, 2000, 2001, 3599):
            self.assertEqual(snapshot(plant_after(*calls, tick(first), tick(3600 - first))), snapshot(whole))

    def test_gulps_only_in_the_first_seconds_behind_a_test(self):
        gulps = 0
        for seed, plan, calls in mixed_lists():
            plant = Plant()
            time = 0
            tested = None
            for call in calls:
                if call[0] == 2 and 1 <= call[1] <= 3600:
                    for second in range(call[1]):
                        taken = ask_on(plant, tick(1))[0][0]
                        if taken:
                            self.assertIsNotNone(tested, seed)
                            self.assertLess(time, tested + plan["holds"], seed)
                        gulps += taken
                        time += 1
                    continue
                answer = ask_on(plant, call)[0]
                if call == TEST:
                    tested = time if answer == [1] else None
                elif call == EXCHANGE:
                    tested = None
                if answer != [-2]:
                    told = ask_on(plant, LOOK)[0]
                    self.assertEqual([told[0]] + told[11:], [time] + ([0, 0] if tested is None else [1, tested]), seed)
        self.assertGreater(gulps, 1000)

    def test_a_list_at_once_is_its_calls_one_by_one(self):
        for seed, plan, calls in mixed_lists():
            plant = Plant()
            self.assertEqual(answers(flat(calls)), flat([run(plant, call) for call in calls]), seed)

    def test_the_same_list_again(self):
        for seed, plan, calls in mixed_lists():
            numbers = flat(calls)
            once = answers(numbers)
            self.assertEqual(numbers, flat(calls), seed)
            self.assertEqual(answers(numbers), once, seed)

    def test_a_refusal_changes_nothing(self):
        seen = {}
        for seed, plan, calls in mixed_lists():
            plant = Plant()
            for call in calls + [RENEW]:
                before = snapshot(plant)
                answer = ask_on(plant, call)[0]
                if answer[0] < 0:
                    self.assertEqual(len(answer), 1, seed)
                    self.assertEqual(snapshot(plant), before, (seed, call))
                    seen[answer[0]] = True
        self.assertEqual(set(seen) - {-8}, {-1, -2, -3, -6, -7, -9, -10})

    def test_all_kinds_of_calls_are_taken(self):
        taken = {}
        for seed, plan, calls in mixed_lists():
            for call, answer in zip(calls, ask(*calls)):
                if answer[0] >= 0:
                    taken[call[0]] = True
        self.assertEqual(sorted(taken), list(range(20)))


class Readings(PlantCase):
    def test_the_calls_behind_them_answer_what_they_answer_without_them(self):
        for seed, plan, calls in mixed_lists():
            changes = [call for call in calls if call[0] not in READINGS]
            answered = [answer for call, answer in zip(calls, ask(*calls)) if call[0] not in READINGS]
            self.assertEqual(answered, ask(*changes), seed)

    def test_each_of_them_behind_every_call(self):
        readings = [
            LOOK, water(0), water(1), water(2), cell(0), cell(1), batch(1), batch(64), who(1), who(2), drawn(1),
            drawn(2), since(0), since(LAST_TIME), SUMS, ahead(1), ahead(40), ahead(0), cell(99),
        ]
        for seed, plan, calls in list(mixed_lists())[:40]:
            plant, other = Plant(), Plant()
            for call in calls:
                self.assertEqual(ask_on(plant, call), ask_on(other, call), seed)
                for reading in readings:
                    ask_on(plant, reading)
            self.assertEqual(snapshot(plant), snapshot(other), seed)

    def test_asked_twice_they_tell_the_same(self):
        for seed, plan, calls in mixed_lists():
            plant = Plant()
            for call in calls:
                answer = ask_on(plant, call)
                if call[0] in READINGS:
                    self.assertEqual(ask_on(plant, call), answer, (seed, call))

    def test_ahead_answers_what_tick_then_does(self):
        ticks = 0
        for seed, plan, calls in mixed_lists():
            plant = Plant()
            for call in calls:
                if call[0] == 2:
                    told = ask_on(plant, ahead(call[1]))
                    self.assertEqual(ask_on(plant, call), told, seed)
                    ticks += 1
                else:
                    ask_on(plant, call)
        self.assertGreater(ticks, 500)
