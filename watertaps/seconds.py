"""What a laid plant does by itself, second by second."""

from watertaps.water import CHLORINE, DISINFECTANT, HARDNESS, SALT, Water, joined, part_of, part_up_to, rest_of


def volume_through(plan):
    return plan.gulp * plan.through // 1000


def reason_against_gulp(plant):
    """0 if a gulp may be taken now, else the number of the first reason why not."""
    plan = plant.plan
    if plant.test_time is None or plant.time >= plant.test_time + plan.holds:
        return 1
    if plan.hmax * (plan.gulp + plant.since_renewed) > plan.soft:
        return 2
    if plant.raw.volume < plan.gulp:
        return 3
    if plant.store.volume + volume_through(plan) > plan.store:
        return 4
    return 0


def take_gulp(plant):
    taken = part_of(plant.raw, plant.plan.gulp)
    plant.raw = rest_of(plant.raw, taken)
    treated = Water(taken.millilitres, filtered(plant, softened(plant, taken.amounts)))
    passed = let_through(plant.plan, treated)
    plant.store = joined(plant.store, passed)
    plant.drained = joined(plant.drained, rest_of(treated, passed))


def softened(plant, amounts):
    """The amounts behind the softener, which gives salt for the hardness it takes."""
    taken = min(amounts[HARDNESS], plant.softener_left)
    plant.softener_left -= taken
    plant.hardness_taken += taken
    plant.since_renewed += plant.plan.gulp
    left = list(amounts)
    left[HARDNESS] -= taken
    left[SALT] += taken
    return left


def filtered(plant, amounts):
    """The amounts behind both carbon filters."""
    by_first = min(amounts[CHLORINE], plant.first_left)
    by_second = min(amounts[CHLORINE] - by_first, plant.second_left)
    plant.first_left -= by_first
    plant.second_left -= by_second
    plant.chlorine_taken += by_first + by_second
    left = list(amounts)
    left[CHLORINE] -= by_first + by_second
    return left


def let_through(plan, treated):
    """What the osmosis lets through of a gulp behind softener and filters."""
    share = part_of(treated, volume_through(plan))
    amounts = [amount * (1000 - plan.back) // 1000 for amount in share.amounts]
    return Water(share.millilitres, amounts)


def turn_loop(plant):
    full = joined(plant.store, plant.loop_cells[-1])
    first = part_up_to(full, plant.plan.cell)
    plant.store = rest_of(full, first)
    plant.loop_cells = [first] + plant.loop_cells[:-1]
    if first.amounts[DISINFECTANT] == 0:
        plant.clean_count = min(plant.clean_count + 1, plant.plan.cells)
    else:
        plant.clean_count = 0


def pass_seconds(plant, seconds):
    """Let so many seconds go by; in how many of them a gulp was taken."""
    gulps = 0
    for second in range(seconds):
        if reason_against_gulp(plant) == 0:
            take_gulp(plant)
            gulps += 1
        if plant.loop_on:
            turn_loop(plant)
        plant.time += 1
    return gulps
