"""How blocks of code lead to one another: which are reached, stand above, or lie on circles."""

from backframes.codeforms import end_goals


def block_goals(blocks):
    """A list with the list of the numbers of the next blocks for each block."""
    return [[goal for goal, _ in end_goals(end)] for _, _, end in blocks]


def reached_from(starts, goals, barred):
    """A dict with all blocks to which rows of goals lead from the starts, past none that is barred."""
    met = {k: True for k in starts if k not in barred}
    waiting = list(met)
    while waiting:
        k = waiting.pop()
        for goal in goals[k]:
            if goal not in met and goal not in barred:
                met[goal] = True
                waiting.append(goal)
    return met


def blocks_above(goals):
    """For each block the list of the other blocks that each row of goals from block 0 to it passes."""
    above = [[] for _ in goals]
    for k in range(len(goals)):
        met = reached_from([0], goals, [k])
        for other in range(len(goals)):
            if other != k and other not in met:
                above[other].append(k)
    return above


def circle_without(goals, barred):
    """The least block on a circle of goals that passes no barred block, or None."""
    for k in range(len(goals)):
        if k in reached_from(goals[k], goals, barred):
            return k
    return None
