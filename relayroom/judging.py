"""Whether a stand settles: told with a paper, or with two roads, or with a road and a ring."""

from relayroom.boards import movable, moved


def judged(board, pressed, stand):
    steps = steps_from(board, pressed, stand)
    roads = roads_along(steps, stand)
    numbers = numbered(steps)
    if len(numbers) < len(steps):
        ring_stand = on_a_ring(steps, numbers)
        return ("rounds", roads[ring_stand], ring_from(steps, numbers, ring_stand))
    ends = [here for here in steps if not steps[here]]
    if len(ends) > 1:
        return ("parts", roads[ends[0]], roads[ends[1]])
    return ("settles", ends[0], numbers)


def steps_from(board, pressed, stand):
    # The relay is kept beside where it leads, since roads and rings are told as relays.
    steps = {}
    due = [stand]
    while due:
        here = due.pop()
        if here not in steps:
            steps[here] = [(relay, moved(here, relay)) for relay in movable(board, pressed, here)]
            due.extend([there for relay, there in steps[here]])
    return steps


def roads_along(steps, stand):
    # A stand came into the steps behind one that leads to it, so its road is there when its turn comes.
    roads = {stand: []}
    for here in steps:
        for relay, there in steps[here]:
            if there not in roads:
                roads[there] = roads[here] + [relay]
    return roads


def numbered(steps):
    # Numbered from the rests upwards, so a stand from which a ring can be come to gets no number.
    numbers = {}
    grown = True
    while grown:
        grown = False
        for here in steps:
            if here not in numbers and all([there in numbers for relay, there in steps[here]]):
                numbers[here] = max([numbers[there] + 1 for relay, there in steps[here]], default=0)
                grown = True
    return numbers


def on_a_ring(steps, numbers):
    # A stand without a number has a move to another such, so the walk comes to one that it met before.
    here = [stand for stand in steps if stand not in numbers][0]
    met = {}
    while here not in met:
        met[here] = True
        here = endless_step(steps, numbers, here)[1]
    return here


def ring_from(steps, numbers, stand):
    step = endless_step(steps, numbers, stand)
    ring = [step[0]]
    while step[1] != stand:
        step = endless_step(steps, numbers, step[1])
        ring.append(step[0])
    return ring


def endless_step(steps, numbers, here):
    return [step for step in steps[here] if step[1] not in numbers][0]


def shows(board, pressed, stand, paper):
    if stand not in paper:
        return False
    ends = 0
    for here in paper:
        onward = [moved(here, relay) for relay in movable(board, pressed, here)]
        if paper[here] < 0 or not leads_down(paper, here, onward):
            return False
        if not onward:
            ends += 1
    return ends == 1


def leads_down(paper, here, onward):
    return all([there in paper and paper[there] < paper[here] for there in onward])
