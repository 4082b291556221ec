"""What a plant keeps from one call to the next."""

from watertaps.water import empty_water


class Plan:
    """The twelve numbers that lay is given, in their order."""

    def __init__(self, numbers):
        self.cells = numbers[0]
        self.cell = numbers[1]
        self.raw = numbers[2]
        self.store = numbers[3]
        self.gulp = numbers[4]
        self.holds = numbers[5]
        self.soft = numbers[6]
        self.carbon = numbers[7]
        self.hmax = numbers[8]
        self.cmax = numbers[9]
        self.through = numbers[10]
        self.back = numbers[11]


class Draw:
    """Water that was drawn, with its tap and its time."""

    def __init__(self, tap, time, water):
        self.tap = tap
        self.time = time
        self.water = water


class Plant:
    """A plant that is new; it is laid as soon as it has a plan."""

    def __init__(self):
        self.plan = None
        self.time = 0
        self.raw = empty_water()
        self.store = empty_water()
        self.loop_cells = []
        self.drained = empty_water()
        self.softener_left = 0
        self.since_renewed = 0
        self.first_left = 0
        self.second_left = 0
        self.test_time = None
        self.brine = 0
        self.loop_on = False
        self.clean_count = 0
        # Each batch as it came in, the first one at index 0; the draws likewise.
        self.batches = []
        self.draws = []
        self.chlorine_taken = 0
        self.doses = 0
        self.hardness_taken = 0
        self.disinfectant_put = 0


def follow_plan(plant, plan):
    """Lay the plant: all that isn't named here stays as it is in a new one."""
    plant.plan = plan
    plant.softener_left = plan.soft
    plant.first_left = plan.carbon
    plant.second_left = plan.carbon
    empty_loop(plant)


def empty_loop(plant):
    """Cells that are empty are clean, all of them."""
    plant.loop_cells = [empty_water() for cell in range(plant.plan.cells)]
    plant.clean_count = plant.plan.cells


def copy_of(plant):
    """A plant just like this one, which may go on by itself."""
    other = Plant()
    # Plan, waters and draws are never changed once they are made, so both plants may hold them.
    other.plan = plant.plan
    other.time = plant.time
    other.raw = plant.raw
    other.store = plant.store
    other.loop_cells = list(plant.loop_cells)
    other.drained = plant.drained
    other.softener_left = plant.softener_left
    other.since_renewed = plant.since_renewed
    other.first_left = plant.first_left
    other.second_left = plant.second_left
    other.test_time = plant.test_time
    other.brine = plant.brine
    other.loop_on = plant.loop_on
    other.clean_count = plant.clean_count
    other.batches = list(plant.batches)
    other.draws = list(plant.draws)
    other.chlorine_taken = plant.chlorine_taken
    other.doses = plant.doses
    other.hardness_taken = plant.hardness_taken
    other.disinfectant_put = plant.disinfectant_put
    return other
