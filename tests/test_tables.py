import itertools
import random
import unittest
from fractions import Fraction

from leastjoined.codes import Code
from leastjoined.tables import Tables, least_tables
from machines import goal, mixed, nodes_of_words, split_code, strings, trees
from values import GREAT, any_values, fields, no_integers, raised

DEEP = Code([*range(1, 26), 25])


def height(words, node):
    """The number of bits of the longest way from a node to the end of a word."""
    return max(len(word) - len(node) for word in words if word[:len(node)] == node)


def reached(words, node, width):
    """The nodes behind so many bits, by a look at each string of bits."""
    return [node + bits for bits in strings(width) if node + bits in nodes_of_words(words)]


def all_widths(words, node=""):
    """All dicts of widths for the tables at a node and below it."""
    told = []
    for width in range(1, height(words, node) + 1):
        below = [all_widths(words, other) for other in reached(words, node, width)]
        for some in itertools.product(*below):
            one = {node: width}
            for more in some:
                one.update(more)
            told.append(one)
    return told


def looks(words, widths, word):
    """The look-ups for a word, one after the other."""
    many, at = 0, ""
    while True:
        many += 1
        at = word[:len(at) + widths[at]]
        if at == word:
            return many


def row(words, node, bits):
    """What a row tells, bit by bit."""
    at = node
    for used, bit in enumerate(bits, start=1):
        at += bit
        if at in words:
            return ("sign", words.index(at), used)
    return ("table", at)


def ordered(words, widths):
    return {node: widths[node] for node in nodes_of_words(words) if node in widths}


def codes():
    """Small codes with told words."""
    told = [Code([1, 1]), Code([2, 1, 3, 3]), Code([2, 2, 2, 2]), Code([1, 2, 3, 4, 5, 5])]
    return told + [mixed(words, seed) for many in (3, 4, 5) for seed, words in enumerate(trees(many))]


class TablesTest(unittest.TestCase):
    def test_all_tables_of_small_codes(self):
        for code in codes():
            for widths in all_widths(code.words):
                told = Tables(code, widths)
                self.assertEqual(told.widths, widths)
                self.assertEqual(told.rows, sum(2 ** width for width in widths.values()))
                many = [looks(code.words, widths, word) for word in code.words]
                self.assertEqual([told.looked(sign) for sign in range(code.size)], many)
                self.assertEqual(told.worst, max(many))
                self.assertEqual(told.code, code)
                for node, width in widths.items():
                    for bits in strings(width):
                        self.assertEqual(told.row(node, bits), row(code.words, node, bits))

    def test_rows_lead_where_readers_go(self):
        told = Tables(split_code(12, 3), {**least_tables(split_code(12, 3), 3).widths})
        code = told.code
        for node, width in told.widths.items():
            for bits in strings(width):
                found = told.row(node, bits)
                if found[0] == "table":
                    self.assertEqual(goal(code.words, node, bits), found[1])
                    self.assertIn(found[1], told.widths)
                else:
                    self.assertEqual(code.words[found[1]], node + bits[:found[2]])
                    self.assertEqual(goal(code.words, node, bits[:found[2]]), "")

    def test_the_document(self):
        told = Tables(Code([1, 2, 3, 3]), {"11": 1, "": 2})
        self.assertEqual([told.row("", bits) for bits in ("00", "01", "10", "11")],
                         [("sign", 0, 1), ("sign", 0, 1), ("sign", 1, 2), ("table", "11")])
        self.assertEqual([told.row("11", "0"), told.row("11", "1")], [("sign", 2, 1), ("sign", 3, 1)])

    def test_the_dict_may_have_any_order(self):
        code = Code([3] * 8)
        widths = {"": 1, "0": 1, "1": 2, "00": 1, "01": 1}
        for order in itertools.permutations(widths):
            told = Tables(code, {node: widths[node] for node in order})
            self.assertEqual(list(told.widths.items()), list(widths.items()))

    def test_widths_are_in_order_and_new(self):
        code = Code([2, 2, 3, 3, 3, 3])
        told = Tables(code, {"11": 1, "1": 1, "10": 1, "": 1, "0": 1})
        self.assertEqual(list(told.widths), ["", "0", "1", "10", "11"])
        one = told.widths
        one["0"] = 5
        one.pop("")
        self.assertIsNot(told.widths, told.widths)
        self.assertEqual(told.widths, {"": 1, "0": 1, "1": 1, "10": 1, "11": 1})

    def test_the_dict_is_copied_and_not_changed(self):
        widths = {"11": 1, "": 2}
        told = Tables(Code([1, 2, 3, 3]), widths)
        self.assertEqual(list(widths.items()), [("11", 1), ("", 2)])
        widths[""] = 3
        del widths["11"]
        self.assertEqual(told.widths, {"": 2, "11": 1})
        self.assertEqual(told.row("", "11"), ("table", "11"))
        self.assertEqual((told.rows, told.looked(3)), (6, 2))

    def test_wide_tables(self):
        # No rows are gone over.
        told = Tables(DEEP, {"": 25})
        self.assertEqual((told.rows, told.worst, told.looked(25)), (2 ** 25, 1, 1))
        self.assertEqual(told.row("", "1" * 24 + "0"), ("sign", 24, 25))
        self.assertEqual(told.row("", "1" * 9 + "0" * 16), ("sign", 9, 10))
        narrow = Tables(DEEP, {"1" * size: 1 for size in reversed(range(25))})
        self.assertEqual((narrow.rows, narrow.worst, narrow.looked(25), narrow.looked(3)), (50, 25, 25, 4))


class BadTableTest(unittest.TestCase):
    def bad(self, code, widths, node):
        self.assertEqual(fields(raised(Tables, code, widths)), ("BadTable", node), widths)

    def test_keys_that_are_no_nodes(self):
        code = Code([1, 2, 3, 3])
        keys = ["0", "10", "110", "111", "00", "2", "1 ", " ", "01", "1111", None, 0, 1, -1, True, False, (), ("",), ("1",)]
        keys += [10 ** 39, (1, ("0",))]
        for key in keys:
            self.bad(code, {"": 3, key: 1}, key)
            self.bad(code, {key: 1, "": 3}, key)
            self.bad(code, {key: None}, key)

    def test_widths_that_are_none(self):
        code = Code([1, 2, 3, 3])
        for width in [*no_integers(), 0, -1, 4, 25, 10 ** 39, -10 ** 39]:
            self.bad(code, {"": width}, "")
        for width in [*no_integers(), 0, -1, 2, 3, 10 ** 39]:
            self.bad(code, {"": 2, "11": width}, "11")
        for width in [*no_integers(), 0, 3]:
            self.bad(code, {"": 1, "1": width, "11": 1}, "1")

    def test_the_longest_way_bounds_the_width(self):
        for code in [*codes(), split_code(10, 2), split_code(10, 2, True)]:
            for node in nodes_of_words(code.words):
                most = height(code.words, node)
                widths = {other: 1 for other in nodes_of_words(code.words)}
                self.bad(code, {**widths, node: most + 1}, node)
                self.bad(code, {**widths, node: 0}, node)
        self.assertEqual(Tables(Code([1, 2, 3, 3]), {"": 3}).rows, 8)

    def test_the_first_key_of_the_dict_is_due_first(self):
        code = Code([1, 2, 3, 3])
        self.bad(code, {"11": 2, "": 4}, "11")
        self.bad(code, {"": 4, "11": 2}, "")
        self.bad(code, {"": 2, "11": 1, "1": 3, "0": 1}, "1")
        self.bad(code, {"": 2, "11": 1, "0": 1, "1": 3}, "0")
        # A wrong key ahead of the root that is left out, and ahead of nodes that are.
        self.bad(code, {"1": 1, "x": 1}, "x")
        self.bad(code, {"": 1, "11": 0}, "11")

    def test_the_root_left_out(self):
        for code in codes():
            self.bad(code, {}, "")
            for widths in all_widths(code.words)[:20]:
                widths.pop("")
                self.bad(code, widths, "")

    def test_each_table_left_out(self):
        for code in codes():
            for widths in all_widths(code.words):
                for node in widths:
                    some = {other: width for other, width in widths.items() if other != node}
                    self.bad(code, some, node)

    def test_several_tables_left_out(self):
        code = Code([3] * 8)
        self.bad(code, {"": 1}, "0")
        self.bad(code, {"": 2}, "00")
        self.bad(code, {"": 2, "00": 1, "10": 1}, "01")
        self.bad(code, {"": 1, "1": 1}, "0")
        # A shorter one is due first, though a greater string.
        self.bad(code, {"": 1, "0": 1, "01": 1}, "1")
        self.bad(code, {"": 1, "0": 1}, "1")

    def test_a_table_too_many(self):
        for code in codes():
            for widths in all_widths(code.words):
                for node in nodes_of_words(code.words):
                    if node not in widths:
                        # What rows of the table too many lead to has tables, too.
                        more = {node: height(code.words, node)}
                        self.bad(code, {**more, **widths}, node)

    def test_several_tables_too_many(self):
        code = Code([3] * 8)
        self.bad(code, {"11": 1, "": 3, "10": 1, "01": 1}, "01")
        self.bad(code, {"11": 1, "": 3, "10": 1, "1": 1}, "1")
        self.bad(code, {"": 3, "00": 1, "1": 2}, "1")

    def test_one_that_is_missing_is_due_ahead_of_one_too_many(self):
        code = Code([3] * 8)
        self.bad(code, {"": 2, "0": 2, "00": 1, "01": 1, "10": 1}, "11")
        # Rows of a table too many lead to nodes as well.
        self.bad(code, {"": 3, "1": 1}, "10")
        self.bad(code, {"": 3, "1": 1, "10": 1}, "11")
        self.bad(code, {"": 3, "1": 1, "10": 1, "11": 1}, "1")

    def test_the_order_of_the_errors(self):
        code = Code([3] * 8)
        self.bad(code, {"0": 1, "11": 2}, "11")
        self.bad(code, {"0": 1}, "")


class RowTest(unittest.TestCase):
    def setUp(self):
        self.told = Tables(Code([1, 2, 3, 4, 4]), {"": 2, "11": 2})

    def test_nodes_without_a_table(self):
        for node in ["1", "111", "0", "10", "1111", "2", *[value for value in any_values() if value != ""]]:
            self.assertEqual(fields(raised(self.told.row, node, "00")), ("BadNode", node))
            self.assertEqual(fields(raised(self.told.row, node, "2")), ("BadNode", node))

    def test_bits_of_another_kind(self):
        wrong = [("2", 0), ("0a", 1), ("00x", 2), ("0 ", 1), (" 0", 0), ("0\n", 1)]
        wrong += [(value, 0) for value in any_values() if not isinstance(value, str)]
        for bits, index in wrong:
            for node in ("", "11"):
                self.assertEqual(fields(raised(self.told.row, node, bits)), ("BadBits", index), bits)

    def test_other_numbers_of_bits(self):
        for bits in ("", "0", "1", "000", "111", "0101", "1" * 50):
            for node in ("", "11"):
                self.assertEqual(fields(raised(self.told.row, node, bits)), ("BadBits", len(bits)), bits)

    def test_nothing_is_raised_otherwise(self):
        self.assertEqual(self.told.row("11", "00"), ("sign", 2, 1))
        self.assertEqual(self.told.row("11", "11"), ("sign", 4, 2))


class LookedTest(unittest.TestCase):
    def test_values_that_are_no_signs(self):
        told = Tables(Code([1, 2, 3, 3]), {"": 2, "11": 1})
        for value in [*no_integers(), -1, 4, 5, 10 ** 39]:
            self.assertEqual(fields(raised(told.looked, value)), ("BadSign", 0), value)
        self.assertEqual([told.looked(sign) for sign in range(4)], [1, 1, 2, 2])


class MeanTest(unittest.TestCase):
    def setUp(self):
        self.told = Tables(Code([1, 2, 3, 3]), {"": 2, "11": 1})

    def test_means(self):
        chance = random.Random(15)
        for code in codes():
            for widths in all_widths(code.words)[:40]:
                told = Tables(code, widths)
                for most in (1, 3, GREAT):
                    counts = [chance.randrange(most + 1) for _ in range(code.size)]
                    if sum(counts):
                        many = [looks(code.words, widths, word) for word in code.words]
                        wanted = Fraction(sum(a * b for a, b in zip(counts, many)), sum(counts))
                        mean = told.mean(counts)
                        self.assertEqual((mean.number, mean.over), (wanted.numerator, wanted.denominator))
                        self.assertEqual(mean, told.mean(tuple(counts)))

    def test_counts_of_0_are_counts(self):
        self.assertEqual([str(self.told.mean(counts)) for counts in ([0, 0, 0, 7], [5, 0, 0, 0], [1, 0, 1, 0])],
                         ["2", "1", "3/2"])

    def test_wrong_numbers_of_counts(self):
        for many in (0, 1, 27, 40):
            self.assertEqual(fields(raised(self.told.mean, [0] * many)), ("TooMany", "signs", many, 26))
        for many in (2, 3, 5, 26):
            self.assertEqual(fields(raised(self.told.mean, [0] * many)), ("OtherSize", many, 4))

    def test_wrong_counts(self):
        for value in [*no_integers(), -1, -10 ** 39]:
            self.assertEqual(fields(raised(self.told.mean, [0, 1, value, value])), ("BadCount", 2))
            self.assertEqual(fields(raised(self.told.mean, [0, value])), ("BadCount", 1))
            self.assertEqual(fields(raised(self.told.mean, [value] * 27)), ("TooMany", "signs", 27, 26))

    def test_all_counts_0(self):
        self.assertEqual(fields(raised(self.told.mean, [0, 0, 0, 0])), ("NoSigns",))
        self.assertEqual(fields(raised(self.told.mean, [0, 0, 0])), ("OtherSize", 3, 4))


class LeastTablesTest(unittest.TestCase):
    def agrees(self, code):
        told = [(sum(2 ** width for width in widths.values()), max(looks(code.words, widths, word) for word in code.words))
                for widths in all_widths(code.words)]
        for most in [*range(1, code.longest + 2), 25]:
            least = least_tables(code, most)
            self.assertIsInstance(least, Tables)
            self.assertEqual(least.rows, min(rows for rows, worst in told if worst <= most), (code.words, most))
            self.assertLessEqual(least.worst, most)
            self.assertEqual(least.code, code)
            # They are tables indeed.
            self.assertEqual(Tables(code, least.widths).rows, least.rows)

    def test_against_all_tables(self):
        for code in codes():
            self.agrees(code)

    def test_against_all_tables_of_six_and_more_signs(self):
        for seed, words in enumerate(trees(6)):
            self.agrees(mixed(words, seed))
        for many, seed in itertools.product((7, 8), range(6)):
            self.agrees(split_code(many, seed))

    def test_one_look_up(self):
        for code in (DEEP, Code([4] * 16), split_code(20, 3)):
            told = least_tables(code, 1)
            self.assertEqual(told.widths, {"": code.longest})
            self.assertEqual((told.rows, told.worst), (2 ** code.longest, 1))

    def test_more_look_ups_never_cost_rows(self):
        for code in (DEEP, Code([4] * 16), split_code(26, 3), split_code(26, 4, True), Code([4] * 6 + [5] * 20)):
            rows = [least_tables(code, most).rows for most in range(1, 26)]
            self.assertEqual(rows, sorted(rows, reverse=True))
            for most in range(1, 26):
                self.assertLessEqual(least_tables(code, most).worst, most)

    def test_words_of_25_bits(self):
        self.assertEqual(least_tables(DEEP, 25).rows, 50)
        self.assertEqual(least_tables(DEEP, 13).rows, 50)
        # Twelve look-ups: one of them takes three bits, with eight rows instead of six.
        self.assertEqual(least_tables(DEEP, 12).rows, 52)

    def test_values_that_are_no_numbers_of_look_ups(self):
        for value in [*no_integers(), 0, -1, 26, 27, 10 ** 39, -10 ** 39]:
            self.assertEqual(fields(raised(least_tables, Code([1, 2, 2]), value)), ("BadLooks", value))

    def test_equal_calls(self):
        for most in range(1, 6):
            self.assertEqual(
                least_tables(split_code(20, 7), most).widths, least_tables(split_code(20, 7), most).widths)


if __name__ == "__main__":
    unittest.main()
