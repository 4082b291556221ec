"""What the tests share: calls by name, plants after some calls, and what a plant holds."""

import unittest

from watertaps.plant import answers, run
from watertaps.state import Plant
from watertaps.water import Water, bag_of

LOWEST = -(2 ** 63)
HIGHEST = 2 ** 63 - 1
TEN_TO_15 = 1000000000000000

LAST_TIME = 10000000000

TEST = [3]
EXCHANGE = [4]
RENEW = [5]
LOOK = [11]
SUMS = [18]

PLAN = {
    "cells": 3, "cell": 10, "raw": 1000, "store": 500, "gulp": 20, "holds": 5,
    "soft": 10000, "carbon": 10000, "hmax": 10, "cmax": 10, "through": 750, "back": 900,
}


def lay(**changes):
    assert set(changes) <= set(PLAN)
    return [0] + list({**PLAN, **changes}.values())


def intake(v, h=0, c=0, x=0):
    return [1, v, h, c, x]


def tick(k):
    return [2, k]


def brine(g):
    return [6, g]


def loop(b):
    return [7, b]


def dose(g):
    return [8, g]


def draw(tap, v):
    return [9, tap, v]


def drain(which, v):
    return [10, which, v]


def water(which):
    return [12, which]


def cell(i):
    return [13, i]


def batch(b):
    return [14, b]


def who(b):
    return [15, b]


def drawn(d):
    return [16, d]


def since(t):
    return [17, t]


def ahead(k):
    return [19, k]


def flat(calls):
    return [number for call in calls for number in call]


def split_answers(numbers):
    found = []
    start = 0
    while start < len(numbers):
        end = start + 1 + numbers[start]
        found.append(numbers[start + 1:end])
        start = end
    assert start == len(numbers)
    return found


def ask(*calls):
    """Each call's answer, on a new plant."""
    return split_answers(answers(flat(calls)))


def last(*calls):
    return ask(*calls)[-1]


def ask_on(plant, *calls):
    return split_answers(run(plant, flat(calls)))


def plant_after(*calls):
    """A plant on which these calls were made, none of them refused."""
    plant = Plant()
    for call, answer in zip(calls, ask_on(plant, *calls)):
        assert answer[0] >= 0, (call, answer)
    return plant


def busy_plant(**changes):
    """A plant in which nothing is 0 or empty any more; its clean count is cells."""
    return plant_after(
        lay(**changes), brine(5000), intake(100, 4, 3, 7), intake(90, 2, 5, 1), TEST, tick(3), loop(1),
        dose(1), tick(3), draw(0, 4), draw(2, 10), TEST, tick(1),
    )


def snapshot(value):
    """All that a value holds, to compare: two waters are alike if their bags and amounts are."""
    if isinstance(value, list):
        return [snapshot(member) for member in value]
    if isinstance(value, Water):
        return {"bag": bag_of(value), "volume": value.volume, "amounts": list(value.amounts)}
    if hasattr(value, "__dict__"):
        return {name: snapshot(member) for name, member in vars(value).items()}
    return value


class PlantCase(unittest.TestCase):
    maxDiff = None

    def assert_refused(self, plant, call, refusal):
        before = snapshot(plant)
        self.assertEqual(ask_on(plant, call), [[refusal]], call)
        self.assertEqual(snapshot(plant), before, call)

    def assert_taken(self, plant, call, answer):
        self.assertEqual(ask_on(plant, call), [answer], call)

    def assert_changed(self, plant, call, answer, changes):
        """The call is answered so, changes just this, and leaves all else as it was."""
        wanted = snapshot(plant)
        wanted.update(changes)
        self.assert_taken(plant, call, answer)
        self.assertEqual(snapshot(plant), wanted, call)

    def assert_told(self, plant, call, answer):
        """The call is answered so and changes nothing."""
        self.assert_changed(plant, call, answer, {})

    def assert_water(self, held, bag, amounts):
        self.assertEqual(bag_of(held), bag)
        self.assertEqual(held.amounts, amounts)
        self.assertEqual(held.volume, sum(bag[2::2]))
