"""A list of calls on one new plant, and their answers."""

from watertaps.calls import answer_of
from watertaps.readings import FIRST_READING, reading_of
from watertaps.state import Plant

NOT_LAID = -2
NO_SUCH_CALL = -100

LAY = 0

# How many arguments the call at each place takes.
ARGUMENTS = (12, 4, 1, 0, 0, 0, 1, 1, 1, 2, 2, 0, 1, 1, 1, 1, 1, 1, 0, 1)


def answers(calls):
    """For each call how many numbers are answered, then these."""
    return run(Plant(), calls)


def run(plant, calls):
    answered = []
    start = 0
    while start < len(calls):
        end = end_of_call(calls, start)
        answer = answer_to(plant, calls[start:end])
        answered.append(len(answer))
        answered.extend(answer)
        start = end
    return answered


def end_of_call(calls, start):
    place = calls[start]
    if place < 0 or place >= len(ARGUMENTS):
        # Nobody can tell where such a call ends, so it takes all that follows.
        return len(calls)
    return min(start + 1 + ARGUMENTS[place], len(calls))


def answer_to(plant, call):
    place = call[0]
    if place < 0 or place >= len(ARGUMENTS) or len(call) != 1 + ARGUMENTS[place]:
        return [NO_SUCH_CALL]
    if place != LAY and plant.plan is None:
        return [NOT_LAID]
    if place >= FIRST_READING:
        return reading_of(plant, place, call[1:])
    return answer_of(plant, place, call[1:])
