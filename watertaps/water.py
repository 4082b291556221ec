"""Water: millilitres by batches, and the amounts of four things in it."""

HARDNESS = 0
CHLORINE = 1
SALT = 2
DISINFECTANT = 3


class Water:
    """Millilitres of batch 1, 2, .. in a list, and the four amounts in another.

    A water is never changed once it is made, so several places may hold the same one.
    The list of millilitres may end before the last batch: what it doesn't reach is 0.
    """

    def __init__(self, millilitres, amounts):
        self.millilitres = millilitres
        self.amounts = amounts
        # Kept, because each second asks for the same water's volume several times.
        self.volume = sum(millilitres)


def empty_water():
    return Water([], [0, 0, 0, 0])


def joined(one, other):
    amounts = [a + b for a, b in zip(one.amounts, other.amounts)]
    return Water(added(one.millilitres, other.millilitres), amounts)


def all_of(waters):
    whole = empty_water()
    for water in waters:
        whole = joined(whole, water)
    return whole


def added(one, other):
    both = [a + b for a, b in zip(one, other)]
    # At most one of the two lists goes on behind what both have.
    return both + one[len(both):] + other[len(both):]


def part_of(water, volume):
    """The part of so many millilitres; there are never fewer in the water."""
    if water.volume == 0:
        return empty_water()
    rounded = [own * volume // water.volume for own in water.millilitres]
    amounts = [amount * volume // water.volume for amount in water.amounts]
    return Water(filled_up(rounded, water.millilitres, volume - sum(rounded)), amounts)


def part_up_to(water, volume):
    """The part of so many millilitres, or of all of it if there's less."""
    return part_of(water, min(volume, water.volume))


def filled_up(rounded, whole, missing):
    """The rounded millilitres, with one more from each of the first batches that have some left."""
    filled = list(rounded)
    for index, own in enumerate(whole):
        if missing == 0:
            break
        if filled[index] < own:
            filled[index] += 1
            missing -= 1
    return filled


def rest_of(water, part):
    """What stays of a water when a part of it is taken."""
    millilitres = [a - b for a, b in zip(water.millilitres, part.millilitres)]
    amounts = [a - b for a, b in zip(water.amounts, part.amounts)]
    return Water(millilitres, amounts)


def millilitres_of(water, batch):
    """How many millilitres of the batch of that number the water has."""
    if batch > len(water.millilitres):
        return 0
    return water.millilitres[batch - 1]


def bag_of(water):
    """How many batches the water has, then each one's number and millilitres."""
    pairs = []
    for number, own in enumerate(water.millilitres, start=1):
        if own > 0:
            pairs.extend([number, own])
    return [len(pairs) // 2] + pairs


def whole_water(water):
    """All that is told of a water: its volume, the four amounts, its bag."""
    return [water.volume] + water.amounts + bag_of(water)
