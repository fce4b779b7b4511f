"""What the tests share: means over readers that go bit by bit, by the equations of one bit."""

from fractions import Fraction

from machines import goal, nodes_of_words


def chances(words, counts, node):
    """How likely each bit is at a node."""
    weight = {bit: sum(count for word, count in zip(words, counts) if word.startswith(node + bit)) for bit in "01"}
    total = weight["0"] + weight["1"]
    return {bit: Fraction(weight[bit], total) for bit in "01"}


def solved(rows):
    """Fractions x with row[:-1] * x = row[-1] for each row."""
    rows = [[Fraction(entry) for entry in row] for row in rows]
    for at in range(len(rows)):
        pivot = next(index for index in range(at, len(rows)) if rows[index][at])
        rows[at], rows[pivot] = rows[pivot], rows[at]
        rows[at] = [entry / rows[at][at] for entry in rows[at]]
        for index, row in enumerate(rows):
            if index != at and row[at]:
                rows[index] = [entry - row[at] * own for entry, own in zip(row, rows[at])]
    return [row[-1] for row in rows]


def reached(words, start):
    """All pairs of nodes to which bits lead from a pair; pairs of one node lead nowhere."""
    seen, left = {start}, [start]
    while left:
        one, other = left.pop()
        if one != other:
            for bit in "01":
                pair = (goal(words, one, bit), goal(words, other, bit))
                if pair not in seen:
                    seen.add(pair)
                    left.append(pair)
    return seen


def may_stay(words, start):
    """Whether two readers may come where they never become one."""
    return any(not any(one == other for one, other in reached(words, pair)) for pair in reached(words, start))


def means(words, counts, starts, price):
    """A dict from pairs of nodes, those that are reached from some: the mean price until they are one.

    price(one, bit) tells what a bit costs that the reader at one reads. Nothing may stay apart.
    """
    pairs = sorted({pair for start in starts for pair in reached(words, start) if pair[0] != pair[1]})
    rows = []
    for pair in pairs:
        row = [0] * (len(pairs) + 1)
        row[pairs.index(pair)] += 1
        for bit, chance in chances(words, counts, pair[0]).items():
            after = tuple(goal(words, node, bit) for node in pair)
            row[-1] += chance * price(pair[0], bit)
            if after[0] != after[1]:
                row[pairs.index(after)] -= chance
        rows.append(row)
    told = dict(zip(pairs, solved(rows)))
    return {**told, **{(node, node): Fraction(0) for node in nodes_of_words(words)}}
