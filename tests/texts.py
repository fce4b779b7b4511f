"""What the tests share: rules by chance, short texts with what they unfold to, and great texts."""

from leastjoined.grown import Text
from values import GREAT


def unfolded(rules, name):
    """The text of a name as a list, by its rule."""
    signs = []
    for part, count in rules[name]:
        signs += (unfolded(rules, part) if isinstance(part, str) else [part]) * count
    return signs


def name_of(number):
    return "".join(chr(65 + number // 26 ** at % 26) for at in range(3))


def random_rules(chance, signs, many, parts, most):
    """Rules each of which has names of the ones ahead of it among its parts."""
    rules = {}
    for number in range(many):
        rule = []
        for _ in range(chance.randint(0, parts)):
            if rules and chance.random() < 0.6:
                part = chance.choice(sorted(rules))
            else:
                part = chance.randrange(signs)
            rule.append((part, chance.randint(1, most)))
        rules[name_of(number)] = rule
    names = list(rules)
    chance.shuffle(names)
    return {name: rules[name] for name in names}, name_of(many - 1)


def short_texts(chance, signs, many=60, most=400):
    """Texts by rules within one another, of at most so many signs, and what they unfold to."""
    found = []
    while len(found) < many:
        rules, root = random_rules(chance, signs, chance.randint(1, 7), 4, 3)
        text = Text(signs, rules, root)
        if text.size <= most:
            found.append((text, unfolded(rules, root)))
    return found


def great_text(chance, signs, many=300, parts=40, most=GREAT):
    """A text as long as the document allows."""
    rules = {}
    for number in range(many):
        rule = [(chance.randrange(signs), chance.randint(1, most)) for _ in range(parts)]
        for at in range(parts):
            if number > 0 and chance.random() < 0.7:
                rule[at] = (name_of(number - chance.randint(1, min(number, 9))), rule[at][1])
        rules[name_of(number)] = rule
    return Text(signs, rules, name_of(many - 1))
