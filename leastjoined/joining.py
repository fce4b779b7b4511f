"""Joinings: the two least nodes are made one, as long as there are two."""

from heapq import heapify, heappop, heappush

from leastjoined.codes import Code, check_counts
from leastjoined.errors import BadTie
from leastjoined.kinds import frozen, is_int

TIES = ("old", "new", "few", "low")


class Joining:
    """The steps of a joining, the code that comes out of it and what this costs."""

    def __init__(self, steps, code, cost):
        self.steps = frozen(steps)
        self.code = frozen(code)
        self.cost = frozen(cost)


def rank(tie, node, signs, height):
    """What a tie rule puts nodes of alike weight in order by, ahead of their numbers."""
    if tie == "new":
        return -node
    if tie == "few":
        return signs
    if tie == "low":
        return height
    return 0


def steps_of(counts, tie):
    """The triples (one, other, weight) of the joining with a tie rule."""
    many = len(counts)
    signs = [1] * many
    heights = [0] * many
    queue = [(count, rank(tie, sign, 1, 0), sign) for sign, count in enumerate(counts)]
    heapify(queue)
    steps = []
    for made in range(many, 2 * many - 1):
        light, _, one = heappop(queue)
        heavy, _, other = heappop(queue)
        signs.append(signs[one] + signs[other])
        heights.append(max(heights[one], heights[other]) + 1)
        steps.append((one, other, light + heavy))
        heappush(queue, (light + heavy, rank(tie, made, signs[made], heights[made]), made))
    return steps


def depths(many, steps):
    """How many made nodes stand above each of so many signs."""
    above = [0] * (2 * many - 1)
    for at in range(many - 2, -1, -1):
        one, other, _ = steps[at]
        above[one] = above[many + at] + 1
        above[other] = above[many + at] + 1
    return above[:many]


def joined(counts, tie):
    """The joining of counts with a tie rule: "old", "new", "few" or "low"."""
    check_counts(counts)
    if not isinstance(tie, str) or tie not in TIES:
        raise BadTie(tie)
    steps = steps_of(counts, tie)
    return Joining(steps, Code(depths(len(counts), steps)), sum([step[2] for step in steps]))


def least_cost(counts):
    """The least cost of all codes for these counts."""
    check_counts(counts)
    queue = list(counts)
    heapify(queue)
    total = 0
    for _ in range(len(counts) - 1):
        weight = heappop(queue) + heappop(queue)
        heappush(queue, weight)
        total = total + weight
    return total


def is_triple(value):
    """Whether a value is a triple of integers."""
    if not isinstance(value, (list, tuple)) or len(value) != 3:
        return False
    return all([is_int(part) for part in value])


def can_join(weights, step):
    """Whether a step takes two nodes of these that weigh least; weights is a dict from nodes to weights."""
    one, other, weight = step
    if one == other or one not in weights or other not in weights:
        return False
    if weight != weights[one] + weights[other]:
        return False
    heavier = max(weights[one], weights[other])
    return all([weights[node] >= heavier for node in weights if node != one and node != other])


def is_joining(counts, steps):
    """Whether a value is a list of the steps of some joining of the counts."""
    check_counts(counts)
    many = len(counts)
    if not isinstance(steps, (list, tuple)) or len(steps) != many - 1:
        return False
    weights = dict(enumerate(counts))
    for at, step in enumerate(steps):
        if not is_triple(step) or not can_join(weights, step):
            return False
        one, other, weight = step
        del weights[one], weights[other]
        weights[many + at] = weight
    return True
