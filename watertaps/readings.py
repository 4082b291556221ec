"""The calls that only tell of a laid plant: none of them changes it.

Like the others, each is handed the plant and as many arguments as it takes.
"""

from watertaps.calls import BAD_ARGUMENT, LAST_TIME, MOST_BATCHES, MOST_DRAWS, outside, tick
from watertaps.seconds import reason_against_gulp
from watertaps.state import copy_of
from watertaps.water import CHLORINE, DISINFECTANT, HARDNESS, SALT, millilitres_of, whole_water

NO_SUCH_BATCH_OR_DRAW = -10

FIRST_READING = 11


def look(plant, numbers):
    tested = [0, 0] if plant.test_time is None else [1, plant.test_time]
    return [
        plant.time,
        plant.softener_left,
        plant.first_left,
        plant.second_left,
        plant.since_renewed,
        plant.brine,
        1 if plant.loop_on else 0,
        plant.clean_count,
        len(plant.batches),
        len(plant.draws),
        reason_against_gulp(plant),
    ] + tested


def water(plant, numbers):
    if outside(numbers, ((0, 2),)):
        return [BAD_ARGUMENT]
    tanks = (plant.raw, plant.store, plant.drained)
    return whole_water(tanks[numbers[0]])


def cell(plant, numbers):
    if outside(numbers, ((0, plant.plan.cells - 1),)):
        return [BAD_ARGUMENT]
    return whole_water(plant.loop_cells[numbers[0]])


def batch(plant, numbers):
    refusal = refusal_of_batch(plant, numbers)
    if refusal < 0:
        return [refusal]
    return [millilitres_in(waters, numbers[0]) for waters in waters_by_place(plant)]


def who(plant, numbers):
    refusal = refusal_of_batch(plant, numbers)
    if refusal < 0:
        return [refusal]
    pairs = []
    for number, one in enumerate(plant.draws, start=1):
        own = millilitres_of(one.water, numbers[0])
        if own > 0:
            pairs.extend([number, own])
    return [len(pairs) // 2] + pairs


def refusal_of_batch(plant, numbers):
    """0 if there's a batch of that number."""
    if outside(numbers, ((1, MOST_BATCHES),)):
        return BAD_ARGUMENT
    if numbers[0] > len(plant.batches):
        return NO_SUCH_BATCH_OR_DRAW
    return 0


def drawn(plant, numbers):
    if outside(numbers, ((1, MOST_DRAWS),)):
        return [BAD_ARGUMENT]
    if numbers[0] > len(plant.draws):
        return [NO_SUCH_BATCH_OR_DRAW]
    one = plant.draws[numbers[0] - 1]
    return [one.tap, one.time] + whole_water(one.water)


def since(plant, numbers):
    if outside(numbers, ((0, LAST_TIME),)):
        return [BAD_ARGUMENT]
    found = [number for number, one in enumerate(plant.draws, start=1) if one.time >= numbers[0]]
    return [len(found)] + found


def sums(plant, numbers):
    places = waters_by_place(plant)
    told = []
    for thing in (HARDNESS, CHLORINE, SALT, DISINFECTANT):
        told.extend([amount_in(waters, thing) for waters in places])
    return told + [plant.chlorine_taken, plant.doses, plant.hardness_taken, plant.disinfectant_put]


def waters_by_place(plant):
    """The waters that came in, then those of each place, in the order in which batch and sums tell them."""
    in_draws = [one.water for one in plant.draws]
    return [plant.batches, [plant.raw], [plant.store], plant.loop_cells, in_draws, [plant.drained]]


def millilitres_in(waters, number):
    return sum([millilitres_of(one, number) for one in waters])


def amount_in(waters, thing):
    return sum([one.amounts[thing] for one in waters])


def ahead(plant, numbers):
    return tick(copy_of(plant), numbers)


# Each stands at its place behind the first.
READINGS = (look, water, cell, batch, who, drawn, since, sums, ahead)


def reading_of(plant, place, numbers):
    return READINGS[place - FIRST_READING](plant, numbers)
