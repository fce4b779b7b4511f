import itertools
import random
import unittest

from leastjoined.borders import borders
from leastjoined.codes import Code, all_codes
from leastjoined.grown import Text, first_lost
from leastjoined.joining import joined
from leastjoined.least import Least, judge
from texts import great_text, name_of, random_rules, short_texts, unfolded
from trial import least_by_trial, lengths_of_all
from values import GREAT, any_values, deep, fields, no_integers, raised

CHANCE = random.Random(13)


def tally_of(signs, some):
    return tuple(some.count(sign) for sign in range(signs))


class TextTest(unittest.TestCase):
    def test_against_the_unfolded_text(self):
        for text, signs in short_texts(CHANCE, 4):
            self.assertEqual(text.size, len(signs))
            self.assertEqual(text.tally(), tally_of(4, signs))
            for size in range(len(signs) + 1):
                self.assertEqual(text.ahead(size), tally_of(4, signs[:size]))
            for at, sign in enumerate(signs):
                self.assertEqual(text.sign_of(at), sign)
            self.assertEqual(text.part(0, len(signs)), tuple(signs))
            for _ in range(20):
                at = CHANCE.randint(0, len(signs))
                size = CHANCE.randint(0, len(signs) - at)
                self.assertEqual(text.part(at, size), tuple(signs[at:at + size]))

    def test_kinds(self):
        text = Text(3, {"A": [(0, 2), (2, 1)]}, "A")
        for value in (text.tally(), text.ahead(2), text.part(0, 2), text.part(0, 0)):
            self.assertIs(value.__class__, tuple)
        self.assertEqual((text.signs, text.root, text.size), (3, "A", 3))
        self.assertEqual((text.tally(), text.ahead(2)), ((2, 0, 1), (2, 0, 0)))
        self.assertEqual((text.part(0, 2), text.part(3, 0)), ((0, 0), ()))

    def test_empty_texts(self):
        for rules in ({"A": []}, {"A": [("B", 5)], "B": []}, {"B": (), "A": (("B", GREAT), ("C", 1)), "C": [["B", 2]]}):
            text = Text(2, rules, "A")
            self.assertEqual((text.size, text.tally(), text.ahead(0), text.part(0, 0)), (0, (0, 0), (0, 0), ()))
            self.assertEqual(fields(raised(text.sign_of, 0)), ("BadPlace", 0))
            self.assertEqual(fields(raised(text.part, 0, 1)), ("BadPlace", 0))
            self.assertEqual(fields(raised(text.ahead, 1)), ("BadSize", 1))
            self.assertIsNone(first_lost(Code([1, 1]), [0, 0], text))
        text = Text(2, {"E": [], "A": [("E", GREAT), (1, 2), ("E", 1), (1, 1), (0, 1), ("E", 3)]}, "A")
        self.assertEqual((text.part(0, 4), text.sign_of(3), text.ahead(4)), ((1, 1, 1, 0), 0, (1, 3)))

    def test_rules_are_new_each_time(self):
        given = {"B": [[0, 1], (1, 2)], "A": (("B", 2),), "C": []}
        text = Text(2, given, "A")
        wanted = {"B": ((0, 1), (1, 2)), "A": (("B", 2),), "C": ()}
        self.assertEqual(text.rules, wanted)
        self.assertEqual(list(text.rules), ["B", "A", "C"])
        self.assertIs(text.rules.__class__, dict)
        self.assertIsNot(text.rules, text.rules)
        self.assertTrue(all(pair.__class__ is tuple for rule in text.rules.values() for pair in (rule, *rule)))
        text.rules["D"] = 1
        del text.rules["A"]
        given["B"][0][0] = 1
        given["B"].append((0, 9))
        given.clear()
        self.assertEqual(text.rules, wanted)
        self.assertEqual((text.size, text.part(0, 6)), (6, (0, 1, 1, 0, 1, 1)))

    def test_equal(self):
        text = Text(2, {"A": [(0, 1), ("B", 1)], "B": [(1, 1)]}, "A")
        self.assertIs(text == Text(2, {"B": (([1, 1]),), "A": ((0, 1), ["B", 1])}, "A"), True)
        others = [Text(3, text.rules, "A"), Text(2, text.rules, "B"), Text(2, {"A": [(0, 1), (1, 1)]}, "A")]
        others += [Text(2, {"A": [("B", 1), (0, 1)], "B": [(1, 1)]}, "A"), Text(2, {**text.rules, "C": []}, "A")]
        for other in [*others, *any_values(), text.rules, (2, text.rules, "A")]:
            self.assertIs(text == other, False)
            self.assertIs(other == text, False)
            self.assertIs(text != other, True)

    def test_bounds(self):
        names = [name_of(at) for at in range(300)]
        text = Text(26, {name: [(at % 26, 1)] * 40 for at, name in enumerate(names)}, "AAA")
        self.assertEqual(text.size, 40)
        self.assertEqual(Text(2, {"ABCDEFGH": [(0, 1)], "Z": [("ABCDEFGH", 1)]}, "Z").size, 1)
        self.assertEqual(Text(2, {"A": [(1, 1)]}, "A").part(0, 1), (1,))

    def test_deep_rules(self):
        rules = {name_of(0): [(1, 1)]}
        for at in range(1, 300):
            rules[name_of(at)] = [(name_of(at - 1), 1)]
        for names in (list(rules), list(rules)[::-1]):
            text = Text(2, {name: rules[name] for name in names}, name_of(299))
            self.assertEqual((text.size, text.part(0, 1), text.ahead(1)), (1, (1,), (0, 1)))
        rules[name_of(299)] = [(name_of(298), GREAT)]
        text = Text(2, rules, name_of(299))
        self.assertEqual((text.size, text.part(GREAT - 2000, 2000)), (GREAT, (1,) * 2000))

    def test_great_texts(self):
        for signs in (2, 8, 26):
            text = great_text(CHANCE, signs)
            self.assertGreater(text.size, 10 ** 1000)
            self.assertEqual(sum(text.tally()), text.size)
            self.assertEqual((text.ahead(text.size), text.ahead(0)), (text.tally(), (0,) * signs))
            for _ in range(4):
                at = CHANCE.randrange(text.size - 50)
                self.check_part(text, at, 50)
            self.check_part(text, 0, 20)
            self.check_part(text, text.size - 20, 20)

    def check_part(self, text, at, size):
        some = text.part(at, size)
        self.assertEqual(len(some), size)
        self.assertEqual(tuple(text.sign_of(at + by) for by in range(size)), some)
        before, behind = text.ahead(at), text.ahead(at + size)
        self.assertEqual(sum(before), at)
        self.assertEqual(tuple(b - a for a, b in zip(before, behind)), tally_of(text.signs, some))

    def test_doubled_text(self):
        rules = {name_of(0): [(0, 1), (1, 2), (0, 1)]}
        for at in range(1, 300):
            rules[name_of(at)] = [(name_of(at - 1), 10 ** 39)]
        text = Text(2, rules, name_of(299))
        self.assertTrue(text.size == 4 * 10 ** (39 * 299))
        self.assertTrue(text.tally() == (text.size // 2, text.size // 2))
        self.assertEqual(text.part(10 ** 5000 * 4 + 1, 6), (1, 1, 0, 0, 1, 1))
        self.assertTrue(text.ahead(10 ** 5000 * 4 + 1) == (2 * 10 ** 5000 + 1, 2 * 10 ** 5000))


class WrongTextTest(unittest.TestCase):
    def test_signs(self):
        for value in [0, 1, 27, -3, GREAT, *no_integers()]:
            error = raised(Text, value, {}, None)
            self.assertEqual(fields(error), ("TooMany", "signs", value, 26))
            self.assertIs(error.many.__class__, value.__class__)
        for signs in range(2, 27):
            self.assertIsNone(raised(Text, signs, {"A": [(signs - 1, 1)]}, "A"))

    def test_number_of_rules(self):
        self.assertEqual(fields(raised(Text, 2, {}, None)), ("TooMany", "rules", 0, 300))
        for many in (301, 400):
            rules = {at: None for at in range(many)}
            self.assertEqual(fields(raised(Text, 2, rules, None)), ("TooMany", "rules", many, 300))

    def test_names(self):
        wrong = ["", "a", "Ab", "A1", "A B", "A\n", " A", "ABCDEFGHI", "\u00c4", "\u0391", "\uff21", "_", "A_"]
        keys = [None, True, False, 0, 3, -1, (), ("A",), GREAT]
        for name in [*wrong, *keys]:
            self.assertEqual(fields(raised(Text, 2, {"A": [], name: []}, "A")), ("BadRule", name))
            self.assertEqual(fields(raised(Text, 2, {name: [], "A": None, "b": []}, "A")), ("BadRule", name))
            self.assertEqual(fields(raised(Text, 2, {name: []}, name)), ("BadRule", name))

    def test_parts(self):
        wrong = [value for value in any_values() if value not in ([], ())]
        wrong += ["A", [()], [(0,)], [(0, 1, 1)], [0, 1], [(0, 0)], [(0, -1)], [(-1, 1)], [(3, 1)], [("C", 1)]]
        wrong += [[("a", 1)], [(0, 1), (1, -GREAT)], [("B", 0)]]
        wrong += [[(0, 1), "A1"], [(0, 1)] * 41, ((1, 1),) * 50, [{0: 1, 1: 1}], [("", 1)], [(GREAT, 1)], [(("A",), 1)]]
        wrong += [[(0, 1), (1, 1), (0, value)] for value in no_integers()]
        wrong += [[(value, 1)] for value in no_integers() if value != "A"]
        wrong += [[value] for value in any_values()] + [deep(10)]
        for value in wrong:
            self.assertEqual(fields(raised(Text, 3, {"B": [], "A": value, "X": None}, "B")), ("BadRule", "A"))
            self.assertEqual(fields(raised(Text, 3, {"Z": value, "A": []}, None)), ("BadRule", "Z"))
        for value in ([], (), [(0, 1)] * 40, [["B", 1]], [(2, GREAT)], (["B", 3], (0, 1))):
            self.assertIsNone(raised(Text, 3, {"B": [], "A": value}, "B"))

    def test_the_first_wrong_key_of_the_dict(self):
        self.assertEqual(fields(raised(Text, 2, {"Z": [("Q", 1)], "A": None}, "A")), ("BadRule", "Z"))
        self.assertEqual(fields(raised(Text, 2, {"A": [("Z", 1)], "Z": None, "a": 1}, "A")), ("BadRule", "Z"))
        self.assertEqual(fields(raised(Text, 2, {"A": [("A", 1)], "Z": None}, "A")), ("BadRule", "Z"))

    def test_rings(self):
        rings = [
            ({"A": [("A", 1)]}, "A"),
            ({"B": [("A", 1)], "A": [("B", 1)]}, "A"),
            ({"C": [("B", 1)], "B": [("C", 1)], "A": [("B", 1)]}, "B"),
            ({"A": [("Z", 1)], "Z": [(0, 1), ("M", 2)], "M": [("Q", 1)], "Q": [("Z", 1)], "B": []}, "M"),
            ({"A": [("B", 1), ("C", 1)], "B": [], "C": [("D", 1)], "D": [("E", 1)], "E": [("D", 1), ("B", 1)]}, "D"),
            ({"ROOT": [(0, 1)], "AA": [("AB", 1)], "AB": [("AC", 1)], "AC": [("AB", 1)]}, "AB"),
            ({"Y": [("Y", 1)], "X": [("Y", 1)], "A": [("W", 1)], "W": [("W", 1), ("Y", 1)]}, "W"),
        ]
        for rules, name in rings:
            for root in (name, None, "NONE"):
                self.assertEqual(fields(raised(Text, 2, rules, root)), ("Ring", name))

    def test_rings_by_trial(self):
        for _ in range(300):
            names = [chr(65 + at) for at in range(6)]
            CHANCE.shuffle(names)
            rules = {name: [(CHANCE.choice(names), 1) for _ in range(CHANCE.randint(0, 2))] for name in names}
            below = {name: {part for part, _ in rules[name]} for name in names}
            for _ in range(6):
                below = {name: below[name].union(*(below[other] for other in below[name])) for name in names}
            wanted = sorted(name for name in names if name in below[name])
            error = raised(Text, 2, rules, "A")
            self.assertEqual(error and fields(error), ("Ring", wanted[0]) if wanted else None)

    def test_many_rings(self):
        names = [name_of(at) for at in range(300)]
        rules = {name: [(other, 1) for other in names[-40:]] for name in names}
        self.assertEqual(fields(raised(Text, 2, rules, "AAA")), ("Ring", sorted(names[-40:])[0]))

    def test_roots(self):
        for root in [*any_values(), "B", "a", "AB", ["A"], ("A",), {"A": 1}, deep(10)]:
            error = raised(Text, 2, {"A": [(0, 1)]}, root)
            self.assertEqual(fields(error), ("NoRule", root))
            self.assertIs(error.root.__class__, root.__class__)

    def test_sizes_and_places(self):
        text = Text(3, {"A": [(0, 3), (2, 2)]}, "A")
        for value in [-1, 6, -GREAT, GREAT, *no_integers()]:
            self.assertEqual(fields(raised(text.ahead, value)), ("BadSize", value))
        for value in [-1, 5, 6, -GREAT, GREAT, *no_integers()]:
            self.assertEqual(fields(raised(text.sign_of, value)), ("BadPlace", value))
        for value in [-1, 4, 5, -GREAT, GREAT, *no_integers()]:
            self.assertEqual(fields(raised(text.part, value, 2)), ("BadPlace", value))
        for size in (6, 7, 2000):
            self.assertEqual(fields(raised(text.part, 0, size)), ("BadPlace", 0))
        self.assertEqual((text.part(5, 0), text.part(0, 5), text.part(3, 2)), ((), (0, 0, 0, 2, 2), (2, 2)))
        self.assertEqual(fields(raised(text.part, 6, 0)), ("BadPlace", 6))
        for value in [None, -1, 0, GREAT]:
            for size in (2001, GREAT):
                self.assertEqual(fields(raised(text.part, value, size)), ("TooMany", "letters", size, 2000))
        great = Text(2, {"A": [(1, GREAT)]}, "A")
        self.assertEqual(great.part(GREAT - 2000, 2000), (1,) * 2000)
        self.assertEqual(fields(raised(great.part, GREAT - 1999, 2000)), ("BadPlace", GREAT - 1999))


class FirstLostTest(unittest.TestCase):
    def by_trial(self, lengths, counts, signs):
        counts = list(counts)
        for size, sign in enumerate(signs, start=1):
            counts[sign] += 1
            if lengths not in least_by_trial(counts):
                return size
        return None

    def test_against_the_unfolded_text(self):
        lost = 0
        for signs in (3, 4, 5):
            for text, unfold in short_texts(CHANCE, signs):
                if text.size > 150:
                    continue
                counts = [CHANCE.randint(0, 12) for _ in range(signs)]
                lengths = CHANCE.choice(least_by_trial(counts))
                wanted = self.by_trial(lengths, counts, unfold)
                self.assertEqual(first_lost(Code(lengths), counts, text), wanted)
                lost += wanted is not None
        self.assertGreater(lost, 30)

    def test_repeated_parts_that_rise(self):
        rules = {"B": [(1, 1), (0, 2)], "A": [("B", 2)], "TOP": [("A", 5)], "C": [(0, 4), ("B", 9), (2, 5), (1, 60)]}
        self.assertEqual(first_lost(Code([1, 2, 2]), [0, 0, 0], Text(3, rules, "TOP")), 1)
        self.assertIsNone(first_lost(Code([1, 2, 2]), [1, 0, 0], Text(3, rules, "TOP")))
        text = Text(3, rules, "C")
        wanted = self.by_trial((1, 2, 2), [1, 0, 0], list(text.part(0, text.size)))
        self.assertEqual(first_lost(Code([1, 2, 2]), [1, 0, 0], text), wanted)

    def test_small_counts_by_chance(self):
        for _ in range(500):
            rules, root = random_rules(CHANCE, 3, 6, 3, 3)
            text = Text(3, rules, root)
            if text.size <= 200:
                counts = [CHANCE.randint(0, 4) for _ in range(3)]
                lengths = CHANCE.choice(least_by_trial(counts))
                wanted = self.by_trial(lengths, counts, unfolded(rules, root))
                self.assertEqual(first_lost(Code(lengths), counts, text), wanted)

    def test_all_small_counts(self):
        text = Text(3, {"A": [(0, 2), ("B", 3), (2, 4)], "B": [(1, 1), (2, 2), (0, 1)]}, "A")
        signs = list(text.part(0, text.size))
        for counts in itertools.product(range(8), repeat=3):
            for lengths in least_by_trial(counts):
                self.assertEqual(first_lost(Code(lengths), counts, text), self.by_trial(lengths, counts, signs))

    def test_two_signs_are_never_lost(self):
        self.assertIsNone(first_lost(Code([1, 1]), [0, 5], great_text(CHANCE, 2, 50, 10)))

    def test_it_need_not_stay_lost(self):
        text = Text(3, {"A": [(1, 2), (0, 50)]}, "A")
        self.assertEqual(first_lost(Code([1, 2, 2]), [1, 0, 0], text), 2)
        self.assertIsInstance(judge(Code([1, 2, 2]), [51, 2, 0]), Least)

    def check_place(self, code, counts, text, place):
        for size in (place - 1, place):
            now = [count + more for count, more in zip(counts, text.ahead(size))]
            self.assertEqual(isinstance(judge(code, now), Least), size < place)
        for _ in range(30):
            size = CHANCE.randrange(place)
            now = [count + more for count, more in zip(counts, text.ahead(size))]
            self.assertIsInstance(judge(code, now), Least)

    def test_great_texts(self):
        for signs in (3, 5, 8):
            text = great_text(CHANCE, signs)
            for most in (10, GREAT):
                counts = [CHANCE.randint(0, most) for _ in range(signs)]
                code = joined(counts, "old").code
                place = first_lost(code, counts, text)
                self.check_place(code, counts, text, place)

    def test_slow_falls(self):
        # Each "AB" takes one from the slack of sign 0 over sign 1, after it has given 10 ** 9.
        rules = {"AB": [(0, 10 ** 9), (1, 10 ** 9 + 1)], "TOP": [("MID", 10 ** 30)], "MID": [("AB", 7)]}
        text = Text(3, rules, "TOP")
        for start in (0, 1, 6, 7, 10 ** 20, 10 ** 20 + 3):
            counts = [10 ** 9 + start, 0, 0]
            place = first_lost(Code([1, 2, 2]), counts, text)
            self.check_place(Code([1, 2, 2]), counts, text, place)
            self.assertEqual(place, (10 ** 9 + start + 1) * (2 * 10 ** 9 + 1))

    def test_never_lost(self):
        text = Text(3, {"A": [(0, 1), (1, 1)], "B": [("A", GREAT)], "C": [("B", GREAT), (0, GREAT)]}, "C")
        self.assertIsNone(first_lost(Code([1, 2, 2]), [0, 0, 0], text))
        turned = Text(3, {"A": [(1, 1), (0, 1)], "B": [("A", GREAT)], "C": [("B", GREAT), (0, GREAT)]}, "C")
        self.assertEqual(first_lost(Code([1, 2, 2]), [0, 0, 0], turned), 1)
        self.assertIsNone(first_lost(Code([1, 2, 2]), [1, 0, 0], turned))
        even = Text(8, {"A": [(sign, 1) for sign in range(8)], "B": [("A", GREAT)] * 40}, "B")
        self.assertEqual(first_lost(Code([3] * 8), [0] * 8, even), 1)
        self.assertIsNone(first_lost(Code([3] * 8), [1] * 8, even))

    def test_eight_signs(self):
        for lengths in ([3] * 8, [2, 2, 3, 3, 4, 4, 4, 4], [1, 2, 3, 4, 5, 6, 7, 7]):
            code = Code(lengths)
            counts = [2 ** (7 - length) for length in lengths]
            for text, signs in short_texts(CHANCE, 8):
                place = first_lost(code, counts, text)
                now, wanted = list(counts), None
                for size, sign in enumerate(signs, start=1):
                    now[sign] += 1
                    if not isinstance(judge(code, now), Least):
                        wanted = size
                        break
                self.assertEqual(place, wanted)

    def test_errors(self):
        text, other = Text(3, {"A": [(0, 1)]}, "A"), Text(2, {"A": [(0, 1)]}, "A")
        nine = Code([3] * 7 + [4] * 2)
        self.assertEqual(fields(raised(first_lost, nine, [None], text)), ("TooMany", "signs", 9, 8))
        self.assertEqual(fields(raised(first_lost, Code([4] * 16), [1] * 16, text)), ("TooMany", "signs", 16, 8))
        code = Code([1, 2, 2])
        for many in (0, 1, 27):
            self.assertEqual(fields(raised(first_lost, code, [None] * many, other)), ("TooMany", "signs", many, 26))
        for value in [-1, *no_integers()]:
            self.assertEqual(fields(raised(first_lost, code, [1, value], other)), ("BadCount", 1))
        self.assertEqual(fields(raised(first_lost, code, [1, 9], other)), ("OtherSize", 2, 3))
        self.assertEqual(fields(raised(first_lost, code, [1, 9, 1, 1], text)), ("OtherSize", 4, 3))
        self.assertEqual(fields(raised(first_lost, code, [1, 9, 1], other)), ("OtherSize", 2, 3))
        self.assertEqual(fields(raised(first_lost, code, [1, 9, 1], text)), ("NotLeast",))
        self.assertIsNone(raised(first_lost, code, [9, 1, 1], text))
        eight = Text(8, {"A": [(0, 1)]}, "A")
        self.assertIsNone(raised(first_lost, Code([3] * 8), [1] * 8, eight))

    def test_not_least(self):
        text = Text(4, {"A": [(0, 1)]}, "A")
        for counts in itertools.product(range(3), repeat=4):
            for lengths in lengths_of_all(4):
                error = raised(first_lost, Code(lengths), counts, text)
                self.assertEqual(error is None, lengths in least_by_trial(counts))

    def test_counts_are_not_changed(self):
        counts = [5, 0, 0]
        text = Text(3, {"A": [(1, 9)]}, "A")
        self.assertEqual(first_lost(Code([1, 2, 2]), counts, text), first_lost(Code([1, 2, 2]), tuple(counts), text))
        self.assertEqual(counts, [5, 0, 0])
        self.assertEqual(len(borders(Code([1, 2, 2]))), 2)
        self.assertEqual(len(all_codes(3)), 3)


if __name__ == "__main__":
    unittest.main()
