"""What the document says of the whole program."""

import importlib
import pathlib
import re
import unittest

from leastjoined.borders import Border, border, borders, bunches, is_border, number_of_borders, number_of_bunches, parts
from leastjoined.changes import is_near, is_only, nearest, slack, taken, until
from leastjoined.coded import coded
from leastjoined.codes import Code, all_codes, check_counts, cost, number_of_codes
from leastjoined.common import Apart, Common, common, is_apart, is_common, is_plan, plan
from leastjoined.delays import delays
from leastjoined.flips import flips
from leastjoined.grown import Text, first_lost
from leastjoined.joining import is_joining, joined, least_cost
from leastjoined.least import Better, Least, is_better, is_least, judge, least_codes, levels
from leastjoined.limits import (
    BetterWithin, LeastWithin, is_better_within, is_least_within, judge_within, least_within, prices,
)
from leastjoined.ratios import Ratio
from leastjoined.readers import follow, read, spelled
from leastjoined.setting import Never, is_never, is_setting, setting
from leastjoined.soonest import soonest
from leastjoined.tables import Tables, least_tables
from test_language import INTERFACE

LENGTHS = [1, 2, 3, 3]
COUNTS = [8, 4, 2, 1]
EVEN = [2, 2, 2, 2]
RULES = {"AB": [(0, 1), (1, 2)], "TOP": [("AB", 10 ** 30), (3, 1), (2, 4)], "NONE": []}
DOCUMENT = pathlib.Path(__file__).resolve().parent.parent.parent / "shared" / "DOC.md"


def tuples(value):
    """The same with tuples in the place of lists."""
    if isinstance(value, (list, tuple)):
        return tuple(tuples(part) for part in value)
    if isinstance(value, dict):
        return {key: tuples(part) for key, part in value.items()}
    return value


def copied(value):
    """A copy with lists and dicts that are new."""
    if isinstance(value, (list, tuple)):
        return value.__class__(copied(part) for part in value)
    if isinstance(value, dict):
        return {key: copied(part) for key, part in value.items()}
    return value


def plain(value):
    """What a value tells, objects of the package as their classes and attributes."""
    if isinstance(value, (list, tuple)):
        return (value.__class__.__name__, [plain(part) for part in value])
    if isinstance(value, dict):
        return ("dict", [(key, plain(part)) for key, part in value.items()])
    if value.__class__.__module__.startswith("leastjoined"):
        return (value.__class__.__name__, plain(vars(value)))
    return (value.__class__.__name__, value)


def changeable(value):
    """All lists and dicts within a value that is returned, also those of attributes without an underscore."""
    if isinstance(value, (list, tuple)):
        own = [value] if isinstance(value, list) else []
        return own + [found for part in value for found in changeable(part)]
    if isinstance(value, dict):
        return [value] + [found for part in value.values() for found in changeable(part)]
    if value.__class__.__module__.startswith("leastjoined"):
        names = [name for name in vars(value) if not name.startswith("_")]
        names += [name for name, part in vars(value.__class__).items() if isinstance(part, property)]
        return [found for name in names for found in changeable(getattr(value, name))]
    return []


def code():
    return Code(LENGTHS)


def text():
    return Text(4, RULES, "TOP")


# Calls over the whole interface; each row is made anew, by lists and by tuples.
CALLS = [
    (check_counts, lambda: [COUNTS]),
    (Ratio, lambda: [6, -4]),
    (Code, lambda: [LENGTHS]),
    (Code, lambda: [LENGTHS, ["1", "01", "001", "000"]]),
    (cost, lambda: [code(), COUNTS]),
    (number_of_codes, lambda: [5]),
    (all_codes, lambda: [4]),
    (joined, lambda: [COUNTS, "old"]),
    (least_cost, lambda: [COUNTS]),
    (is_joining, lambda: [[1, 1, 1, 2], [[1, 0, 2], [2, 4, 3], [3, 5, 5]]]),
    (levels, lambda: [code(), COUNTS]),
    (judge, lambda: [code(), COUNTS]),
    (judge, lambda: [Code(EVEN), COUNTS]),
    (Least, lambda: [code(), COUNTS, [[1, [2]], [3]]]),
    (Better, lambda: [code(), COUNTS, [0], [1, 2], Code(EVEN)]),
    (is_least, lambda: [judge(code(), COUNTS)]),
    (is_better, lambda: [judge(Code(EVEN), COUNTS)]),
    (least_codes, lambda: [[2, 1, 1, 1]]),
    (number_of_bunches, lambda: [code(), 1]),
    (bunches, lambda: [code(), 1]),
    (number_of_borders, lambda: [code()]),
    (borders, lambda: [code()]),
    (border, lambda: [code(), (0,), (2, 3)]),
    (Border, lambda: [code(), [0], [2, 3], COUNTS, Code(EVEN)]),
    (is_border, lambda: [border(code(), (0,), (2, 3))]),
    (parts, lambda: [Code([3] * 8), (0, 1, 2, 3), (4, 5)]),
    (least_within, lambda: [COUNTS, 2]),
    (judge_within, lambda: [code(), COUNTS, 3]),
    (judge_within, lambda: [Code(EVEN), COUNTS, 3]),
    (LeastWithin, lambda: [code(), COUNTS, 3, [8, 4], [None, 3]]),
    (BetterWithin, lambda: [code(), COUNTS, 3, [[0, 1]], [[1, 2], [2, 3]], Code(EVEN)]),
    (is_least_within, lambda: [judge_within(code(), COUNTS, 3)]),
    (is_better_within, lambda: [judge_within(Code(EVEN), COUNTS, 3)]),
    (prices, lambda: [COUNTS]),
    (slack, lambda: [code(), COUNTS]),
    (is_only, lambda: [code(), COUNTS]),
    (nearest, lambda: [code(), COUNTS]),
    (is_near, lambda: [code(), COUNTS, 2, [0], [2, 1]]),
    (taken, lambda: [code(), COUNTS]),
    (until, lambda: [code(), COUNTS, Code(EVEN)]),
    (common, lambda: [[COUNTS, [16, 8, 4, 2]]]),
    (common, lambda: [[[1, 0, 0, 0], [0, 0, 0, 1], [1, 1, 1, 1]]]),
    (Common, lambda: [[COUNTS, COUNTS], code()]),
    (Apart, lambda: [[COUNTS, COUNTS], 5, [1, 2]]),
    (is_common, lambda: [common([COUNTS])]),
    (is_apart, lambda: [common([[1, 0, 0, 0], [0, 0, 0, 1], [1, 1, 1, 1]])]),
    (plan, lambda: [4, [0, 1, 1, 0, 2, 3, 3, 3], 1]),
    (is_plan, lambda: [3, [0, 1, 1, 0], 1, [[1, Code([1, 2, 2])], [3, Code([2, 1, 2])]], [[1, 3]]]),
    (Text, lambda: [4, RULES, "TOP"]),
    (first_lost, lambda: [code(), COUNTS, text()]),
    (follow, lambda: [code(), "1", "0110"]),
    (spelled, lambda: [code(), [0, 3, 2]]),
    (read, lambda: [code(), "0110", "11"]),
    (Tables, lambda: [code(), {"11": 1, "": 2}]),
    (least_tables, lambda: [code(), 2]),
    (coded, lambda: [code(), text()]),
    (is_setting, lambda: [code(), "01"]),
    (setting, lambda: [code()]),
    (setting, lambda: [Code(EVEN)]),
    (Never, lambda: [Code(EVEN), [["", "0"], ["", "1"]]]),
    (is_never, lambda: [setting(Code(EVEN))]),
    (delays, lambda: [code()]),
    (flips, lambda: [code()]),
    (soonest, lambda: [COUNTS]),
]
# Calls of methods, and arguments.
METHODS = [
    (lambda: Ratio(3, 2), "is_less", lambda: [Ratio(5)]),
    (lambda: Ratio(3, 2), "divided", lambda: [7]),
    (text, "tally", lambda: []),
    (text, "ahead", lambda: [10 ** 29]),
    (text, "sign_of", lambda: [10 ** 29]),
    (text, "part", lambda: [10 ** 29, 6]),
    (lambda: Tables(code(), {"": 2, "11": 1}), "row", lambda: ["", "11"]),
    (lambda: Tables(code(), {"": 2, "11": 1}), "looked", lambda: [2]),
    (lambda: Tables(code(), {"": 2, "11": 1}), "mean", lambda: [COUNTS]),
    (lambda: coded(code(), text()), "bit", lambda: [10 ** 29]),
    (lambda: coded(code(), text()), "part", lambda: [10 ** 29, 9]),
    (lambda: coded(code(), text()), "begin", lambda: [10 ** 29]),
    (lambda: coded(code(), text()), "sign_at", lambda: [10 ** 29]),
    (lambda: coded(code(), text()), "right_from", lambda: [10 ** 29, "11"]),
    (lambda: coded(code(), text()), "flipped", lambda: [10 ** 29]),
    (lambda: delays(code()), "fewest", lambda: ["", "11"]),
    (lambda: delays(code()), "greatest", lambda: ["", "11"]),
    (lambda: delays(code()), "apart_by", lambda: ["", "11"]),
    (lambda: delays(code()), "mean", lambda: ["", "11", COUNTS]),
    (lambda: flips(code()), "mean", lambda: [COUNTS]),
]
# Functions and classes that are called by others, or are the errors.
OTHERS = {"JoinsError", "Joining", "Near", "Plan", "Reading", "Coded", "Sets", "Delays", "Flips", "Soonest"}


class WholeTest(unittest.TestCase):
    def calls(self):
        for call, args in CALLS:
            yield call.__name__, lambda some, call=call: call(*some), args
        for made, name, args in METHODS:
            yield name, lambda some, made=made, name=name: getattr(made(), name)(*some), args

    def test_each_name_of_the_interface_is_called(self):
        listed = {name for names in INTERFACE.values() for name in names}
        self.assertEqual(listed - {call.__name__ for call, _ in CALLS}, OTHERS & listed)
        methods = {
            name for names in INTERFACE.values() for own in names.values() for name in own or []
            if not name.startswith("__")
        }
        self.assertEqual(methods - {name for _, name, _ in METHODS}, {"rules", "widths"})

    def test_equal_calls_tell_the_same(self):
        for name, call, args in self.calls():
            self.assertEqual(plain(call(args())), plain(call(args())), name)

    def test_tuples_in_the_place_of_lists(self):
        for name, call, args in self.calls():
            self.assertEqual(plain(call(copied(args()))), plain(call(list(tuples(args())))), name)

    def test_nothing_that_is_passed_is_changed(self):
        for name, call, args in self.calls():
            some = copied(args())
            before = plain(some)
            call(some)
            self.assertEqual(plain(some), before, name)

    def test_objects_do_not_change(self):
        for made, name, args in METHODS:
            one = made()
            before = plain(one)
            first = plain(getattr(one, name)(*args()))
            self.assertEqual(plain(one), before, name)
            self.assertEqual(plain(getattr(one, name)(*args())), first, name)

    def test_lists_and_dicts_are_new(self):
        for name, call, args in self.calls():
            some = copied(args())
            told, other = call(some), call(some)
            found = changeable(told) + changeable(other) + changeable(some)
            self.assertEqual(len({id(one) for one in found}), len(found), name)

    def test_what_is_passed_may_be_changed_afterwards(self):
        for name, call, args in self.calls():
            some = copied(args())
            told = call(some)
            before = plain(told)
            for one in changeable(some):
                one.clear()
            self.assertEqual(plain(told), before, name)


class InterfaceTest(unittest.TestCase):
    def test_each_name_stands_in_its_module(self):
        for name, listed in INTERFACE.items():
            module = importlib.import_module("leastjoined." + name.removesuffix(".py"))
            for word in listed:
                self.assertEqual(getattr(module, word).__module__, module.__name__)

    @unittest.skipUnless(DOCUMENT.exists(), "the document is not here")
    def test_all_modules_of_the_document(self):
        document = DOCUMENT.read_text(encoding="utf-8")
        heads = set(re.findall(r"^## leastjoined/(\w+\.py)", document, re.MULTILINE))
        self.assertEqual(heads, set(INTERFACE))


if __name__ == "__main__":
    unittest.main()
