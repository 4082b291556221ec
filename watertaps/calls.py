"""The calls that change a plant: each is handed it and its arguments and answers a list of numbers.

Whoever calls them has made sure that each has as many arguments as it takes, and that the
plant is laid, but for lay.
"""

from watertaps.seconds import pass_seconds, reason_against_gulp
from watertaps.state import Draw, Plan, empty_loop, follow_plan
from watertaps.water import Water, all_of, bag_of, joined, part_of, part_up_to, rest_of

BAD_ARGUMENT = -1
LAID_ALREADY = -3
TOO_LITTLE_CARBON = -4
TOO_LITTLE_SOFTENER = -5
NO_ROOM_OR_WATER = -6
TOO_LITTLE_BRINE = -7
FULL = -8
NOT_CLEAN = -9

MOST_BATCHES = 64
MOST_DRAWS = 512
LAST_TIME = 10000000000
# No sum and no brine grows beyond this.
MOST = 1000000000000000

# What drain is to drain; else it's the loop.
RAW_TANK = 0
STORE = 1

LAY_RANGES = (
    (2, 32),
    (1, 1000000),
    (1, 1000000000),
    (1, 1000000000),
    (1, 1000000),
    (1, 86400),
    (1, 1000000000000000),
    (1, 1000000000000000),
    (1, 1000),
    (1, 1000),
    (1, 1000),
    (0, 1000),
)


def outside(numbers, ranges):
    """Whether some number isn't in the range at its own place."""
    for number, bounds in zip(numbers, ranges):
        if number < bounds[0] or number > bounds[1]:
            return True
    return False


def lay(plant, numbers):
    if outside(numbers, LAY_RANGES):
        return [BAD_ARGUMENT]
    if plant.plan is not None:
        return [LAID_ALREADY]
    plan = Plan(numbers)
    if plan.carbon < plan.holds * plan.gulp * plan.cmax:
        return [TOO_LITTLE_CARBON]
    if plan.soft < plan.gulp * plan.hmax:
        return [TOO_LITTLE_SOFTENER]
    follow_plan(plant, plan)
    return [0]


def intake(plant, numbers):
    if outside(numbers, ((1, 1000000000), (0, plant.plan.hmax), (0, plant.plan.cmax), (0, 1000))):
        return [BAD_ARGUMENT]
    if len(plant.batches) >= MOST_BATCHES:
        return [FULL]
    volume = numbers[0]
    if plant.raw.volume + volume > plant.plan.raw:
        return [NO_ROOM_OR_WATER]
    millilitres = [0] * len(plant.batches) + [volume]
    batch = Water(millilitres, [numbers[1] * volume, numbers[2] * volume, numbers[3] * volume, 0])
    plant.batches.append(batch)
    plant.raw = joined(plant.raw, batch)
    return [len(plant.batches)]


def tick(plant, numbers):
    if outside(numbers, ((1, 3600),)):
        return [BAD_ARGUMENT]
    if plant.time + numbers[0] > LAST_TIME:
        return [FULL]
    gulps = pass_seconds(plant, numbers[0])
    return [gulps, reason_against_gulp(plant), plant.clean_count]


def test(plant, numbers):
    if plant.doses >= MOST:
        return [FULL]
    if plant.first_left == 0:
        plant.test_time = None
        return [0]
    plant.first_left -= 1
    plant.doses += 1
    plant.test_time = plant.time
    return [1]


def exchange(plant, numbers):
    before = [plant.first_left, plant.second_left]
    plant.first_left = plant.second_left
    plant.second_left = plant.plan.carbon
    plant.test_time = None
    return before


def renew(plant, numbers):
    used = plant.plan.soft - plant.softener_left
    if plant.brine < used:
        return [TOO_LITTLE_BRINE]
    plant.brine -= used
    plant.softener_left = plant.plan.soft
    plant.since_renewed = 0
    return [used, plant.brine]


def brine(plant, numbers):
    if outside(numbers, ((1, MOST),)):
        return [BAD_ARGUMENT]
    if plant.brine + numbers[0] > MOST:
        return [FULL]
    plant.brine += numbers[0]
    return [plant.brine]


def loop(plant, numbers):
    if outside(numbers, ((0, 1),)):
        return [BAD_ARGUMENT]
    plant.loop_on = numbers[0] == 1
    return [0]


def dose(plant, numbers):
    if outside(numbers, ((1, 1000000),)):
        return [BAD_ARGUMENT]
    if plant.store.volume == 0:
        return [NO_ROOM_OR_WATER]
    if plant.disinfectant_put + numbers[0] > MOST:
        return [FULL]
    plant.store = joined(plant.store, Water([], [0, 0, 0, numbers[0]]))
    plant.disinfectant_put += numbers[0]
    plant.clean_count = 0
    return [0]


def draw(plant, numbers):
    if outside(numbers, ((0, plant.plan.cells - 1), (1, 1000000))):
        return [BAD_ARGUMENT]
    if len(plant.draws) >= MOST_DRAWS:
        return [FULL]
    if plant.clean_count < plant.plan.cells:
        return [NOT_CLEAN]
    tap = numbers[0]
    cell = plant.loop_cells[tap]
    if cell.volume < numbers[1]:
        return [NO_ROOM_OR_WATER]
    drawn = part_of(cell, numbers[1])
    plant.loop_cells[tap] = rest_of(cell, drawn)
    plant.draws.append(Draw(tap, plant.time, drawn))
    return [len(plant.draws)] + bag_of(drawn)


def drain(plant, numbers):
    if outside(numbers, ((0, 2), (1, 1000000000000))):
        return [BAD_ARGUMENT]
    if numbers[0] == RAW_TANK:
        part = part_up_to(plant.raw, numbers[1])
        plant.raw = rest_of(plant.raw, part)
    elif numbers[0] == STORE:
        part = part_up_to(plant.store, numbers[1])
        plant.store = rest_of(plant.store, part)
    else:
        part = all_of(plant.loop_cells)
        empty_loop(plant)
    plant.drained = joined(plant.drained, part)
    return [part.volume]


# Each call stands at its place.
CALLS = (lay, intake, tick, test, exchange, renew, brine, loop, dose, draw, drain)


def answer_of(plant, place, numbers):
    return CALLS[place](plant, numbers)
