"""Points 24 and 28: the sides, the output fields and the kind of operators, and the faults of their checks."""

import unittest
from itertools import product

from tests.random_operators import EVENT_SIDES, WORDS, random_case, sides_of_word
from tests.support import ExactCase, generator_of_numbers
from tideweir.errors import InvalidOperator
from tideweir.operators.checks import check_operator, sides_of
from tideweir.operators.define import define
from tideweir.flows.flows import check_flow

LEFT = (("a", "whole"), ("b", "text"), ("c", "flag"))
RIGHT = (("d", "whole"), ("e", "text"), ("f", "flag"))
WIDE = tuple(("c" + str(index), "whole") for index in range(8))
EVENTS, TABLE = (LEFT, "events"), (LEFT, "table")
BOTH = [(LEFT, "events"), (RIGHT, "events")]
COUNT = ("n", "count", None)
A, B, C = ("column", "a"), ("column", "b"), ("column", "c")
LOST, MIXED = ("column", "lost"), ("binary", "+", A, B)
ON = (("a", "d"),)
ONE_OF_EACH = {
    "filter": ("filter", C), "map": ("map", (("x", A),)), "union": ("union",), "distinct": ("distinct",),
    "group": ("group", ("a",), (COUNT,)), "top": ("top", ("a",), (("b", "up"),), 1),
    "window": ("window", ("a",), ("tumble", 5), (COUNT,)), "near": ("near", ON, 0, 1, "inner"),
    "asof": ("asof", ON, "inner"), "join": ("join", ON), "first": ("first", ("a",), 5),
}


class Sides(ExactCase):
    def test_of_every_operator(self):
        for word, operator in ONE_OF_EACH.items():
            self.same(sides_of(operator), 2 if word in ("union", "near", "asof", "join") else 1)


class Output(ExactCase):
    def gives(self, operator, inputs, fields, kind):
        self.same(check_operator(operator, inputs), (fields, kind))

    def test_filter(self):
        for side in (EVENTS, TABLE):
            self.gives(("filter", C), [side], LEFT, side[1])
            self.gives(("filter", ("value", None)), [side], LEFT, side[1])

    def test_map(self):
        to = (("x", A), ("y", B), ("z", C), ("null", ("value", None)), ("a", ("length", B)),
              ("b", ("binary", "<", A, A)), ("c", ("pick", C, ("value", None), B)), ("d", ("value", 1)))
        wanted = (("x", "whole"), ("y", "text"), ("z", "flag"), ("null", "flag"), ("a", "whole"), ("b", "flag"),
                  ("c", "text"), ("d", "whole"))
        for side in (EVENTS, TABLE):
            self.gives(("map", to), [side], wanted, side[1])
        self.gives(("map", (("x", ("pick", ("value", None), ("value", None), ("value", None))),)), [TABLE],
                   (("x", "flag"),), "table")

    def test_union(self):
        for one, other in product(("events", "table"), repeat=2):
            wanted = "events" if one == other == "events" else "table"
            self.gives(("union",), [(LEFT, one), (RIGHT, other)], LEFT, wanted)
            self.gives(("union",), [(LEFT, one), (LEFT, other)], LEFT, wanted)
            self.gives(("union",), [(RIGHT, one), (LEFT, other)], RIGHT, wanted)

    def test_distinct_and_top(self):
        for side in (EVENTS, TABLE):
            self.gives(("distinct",), [side], LEFT, "table")
            self.gives(("top", (), (("b", "up"), ("a", "down"), ("c", "up")), 20), [side], LEFT, "table")
            self.gives(("top", ("c", "a"), (("c", "up"),), 1), [side], LEFT, "table")

    def test_group(self):
        aggs = (("k", "count", None), ("l", "count", "b"), ("m", "sum", "a"), ("n", "mean", "a"))
        for side in (EVENTS, TABLE):
            self.gives(("group", ("c", "a"), aggs), [side],
                       (("c", "flag"), ("a", "whole"), ("k", "whole"), ("l", "whole"), ("m", "whole"), ("n", "whole")),
                       "table")
            self.gives(("group", (), (("x", "least", "b"), ("y", "most", "c"), ("z", "least", "a"))), [side],
                       (("x", "text"), ("y", "flag"), ("z", "whole")), "table")

    def test_window(self):
        for window in (("tumble", 5), ("hop", 6, 2), ("session", 3)):
            self.gives(("window", ("b",), window, (("k", "first", "c"), ("l", "last", "b"), ("m", "count", "c"))),
                       [EVENTS], (("b", "text"), ("start", "whole"), ("end", "whole"), ("k", "flag"), ("l", "text"),
                                  ("m", "whole")), "events")
        self.gives(("window", (), ("tumble", 1), (("a", "sum", "a"),)), [EVENTS],
                   (("start", "whole"), ("end", "whole"), ("a", "whole")), "events")

    def test_of_two_sides(self):
        both = LEFT + RIGHT
        for on in (ON, (("b", "e"), ("a", "d")), (("c", "f"), ("b", "e"), ("a", "d"))):
            for keep in ("inner", "left"):
                self.gives(("near", on, -5000, 5000, keep), BOTH, both, "events")
                for kind in ("events", "table"):
                    self.gives(("asof", on, keep), [EVENTS, (RIGHT, kind)], both, "events")
            for one, other in product(("events", "table"), repeat=2):
                self.gives(("join", on), [(LEFT, one), (RIGHT, other)], both, "table")

    def test_first(self):
        self.gives(("first", ("a", "b", "c"), 100000), [EVENTS], LEFT, "events")

    def test_eight_columns(self):
        self.gives(("distinct",), [(WIDE, "events")], WIDE, "table")
        self.gives(("join", (("c1", "x"),)), [(WIDE[:7], "table"), ((("x", "whole"),), "table")],
                   WIDE[:7] + (("x", "whole"),), "table")
        self.gives(("window", ("c1", "c2", "c3", "c4"), ("tumble", 1), (COUNT, ("o", "sum", "c1"))),
                   [(WIDE, "events")], WIDE[1:5] + (("start", "whole"), ("end", "whole"), ("n", "whole"),
                                                    ("o", "whole")), "events")

    def test_what_is_told_is_what_comes_out(self):
        numbers = generator_of_numbers(51)
        for word, _ in product(WORDS, range(20)):
            operator, fields, flows = random_case(numbers, word)
            kinds = ["events" if all(weight > 0 for _, _, weight in flow) else "table" for flow in flows]
            told, kind = check_operator(operator, list(zip(fields, kinds)))
            output = define(operator, fields, flows)
            check_flow(output, told)
            if kind == "events":
                self.assertTrue(all(weight > 0 for _, _, weight in output))

    def test_arguments_are_left_alone(self):
        for word, operator in ONE_OF_EACH.items():
            self.leaves_alone(check_operator, operator, BOTH[:sides_of_word(word)])
            self.leaves_alone(sides_of, operator)


class Faults(ExactCase):
    def wrong(self, message, operator, inputs=(EVENTS,)):
        self.refused(InvalidOperator, message, check_operator, operator, list(inputs))

    def lost(self, name, operator, inputs=(EVENTS,)):
        self.wrong("there is no column " + name, operator, inputs)

    def test_columns_that_are_not_there(self):
        self.lost("x", ("group", ("x",), (COUNT,)))
        self.lost("y", ("group", ("a", "y", "x"), (COUNT,)))
        self.lost("x", ("top", ("x", "y"), (("z", "up"),), 1))
        self.lost("z", ("top", ("a",), (("b", "up"), ("z", "down"), ("y", "up")), 1))
        self.lost("z", ("top", (), (("z", "up"),), 1))
        self.lost("x", ("window", ("x",), ("tumble", 1), (("n", "sum", "y"),)))
        self.lost("y", ("window", (), ("tumble", 1), (COUNT, ("m", "last", "y"), ("l", "first", "z"))))
        self.lost("start", ("window", ("start",), ("tumble", 1), (COUNT,)))
        self.lost("y", ("group", ("a",), (("m", "count", "y"),)))
        self.lost("m", ("group", (), (("m", "count", None), ("k", "sum", "m"))))
        self.lost("z", ("first", ("a", "z"), 1))
        self.lost("whole", ("first", ("whole",), 1))

    def test_columns_of_pairs(self):
        for make in (lambda on: ("join", on), lambda on: ("asof", on, "left"), lambda on: ("near", on, 0, 0, "inner")):
            self.lost("d", make((("d", "a"),)), BOTH)
            self.lost("a", make((("a", "a"),)), BOTH)
            self.lost("x", make((("a", "x"), ("y", "d"))), BOTH)
            self.lost("y", make((("a", "d"), ("y", "x"))), BOTH)
            self.lost("x", make((("a", "d"), ("b", "x"), ("y", "f"))), BOTH)

    def test_faults_of_expressions(self):
        self.lost("lost", ("filter", LOST))
        self.lost("lost", ("filter", ("binary", "and", C, ("not", LOST))))
        self.wrong("types differ", ("filter", ("not", MIXED)))
        self.wrong("types differ", ("map", (("x", A), ("y", MIXED), ("z", LOST))))
        self.lost("lost", ("map", (("x", A), ("y", LOST), ("z", MIXED))))
        self.lost("lost", ("map", (("x", ("binary", "==", A, LOST)),)))
        self.lost("x", ("map", (("x", A), ("y", ("column", "x")))))

    def test_where_is_a_flag(self):
        for tree in (A, B, ("value", 1), ("value", "x"), ("length", B), ("pick", C, ("value", None), A)):
            self.wrong("types differ", ("filter", tree))

    def test_the_types_of_a_union(self):
        for fields in (LEFT[:2], LEFT + (("d", "flag"),), LEFT[::-1], LEFT[:2] + (("c", "text"),), ()):
            self.wrong("types differ", ("union",), [EVENTS, (fields, "events")])
            self.wrong("types differ", ("union",), [(fields, "table"), EVENTS])

    def test_the_types_of_pairs(self):
        for on in ((("a", "e"),), (("a", "d"), ("b", "f")), (("c", "d"), ("b", "e")), (("a", "d"), ("c", "e"))):
            self.wrong("types differ", ("join", on), BOTH)
            self.wrong("types differ", ("asof", on, "inner"), BOTH)
            self.wrong("types differ", ("near", on, 0, 0, "left"), BOTH)

    def test_sums_of_what_is_not_whole(self):
        for word, column in product(("sum", "mean"), ("b", "c")):
            self.wrong("types differ", ("group", (), (COUNT, ("m", word, column))))
            self.wrong("types differ", ("window", ("a",), ("tumble", 1), (("m", word, column), ("o", "sum", "a"))))
        for word, column in product(("least", "most", "count"), ("a", "b", "c")):
            check_operator(("group", (), (("m", word, column),)), [EVENTS])

    def test_events_are_wanted(self):
        for word, sides in EVENT_SIDES.items():
            operator = ONE_OF_EACH[word]
            for kinds in product(("events", "table"), repeat=sides_of_word(word)):
                inputs = [(fields, kind) for (fields, _), kind in zip(BOTH, kinds)]
                if all(kinds[side] == "events" for side in sides):
                    check_operator(operator, inputs)
                else:
                    self.wrong("events are wanted", operator, inputs)

    def test_names_that_are_there_twice(self):
        self.wrong("x is there twice", ("map", (("x", A), ("y", A), ("x", B), ("y", C))))
        self.wrong("a is there twice", ("group", ("b", "a"), (("n", "count", None), ("a", "count", None))))
        self.wrong("n is there twice", ("group", (), (COUNT, COUNT)))
        self.wrong("end is there twice", ("window", (), ("tumble", 1), (("end", "count", None),)))
        self.wrong("start is there twice", ("window", ("start",), ("tumble", 1), (COUNT,)),
                   [((("start", "whole"), ("end", "whole")), "events")])
        self.wrong("b is there twice", ("join", (("a", "b"),)), [EVENTS, ((("b", "whole"), ("a", "whole")), "events")])
        self.wrong("a is there twice", ("near", (("a", "a"),), 0, 0, "left"), [EVENTS, EVENTS])
        self.wrong("c is there twice", ("asof", (("a", "d"),), "left"),
                   [EVENTS, ((("d", "whole"), ("c", "text")), "table")])

    def test_the_first_name_that_is_there_before(self):
        inputs = [((("end", "whole"), ("start", "whole")), "events")]
        self.wrong("start is there twice", ("window", ("end", "start"), ("tumble", 1), (COUNT,)), inputs)
        self.wrong("end is there twice", ("window", ("end",), ("tumble", 1), (("start", "count", None),)), inputs)

    def test_too_many_columns(self):
        more = ((("x", "whole"), ("y", "whole")), "events")
        self.wrong("too many columns", ("join", (("c1", "x"),)), [(WIDE, "events"), more])
        self.wrong("too many columns", ("asof", (("c1", "x"),), "inner"), [(WIDE[:7], "events"), more])
        self.wrong("too many columns", ("near", (("c1", "x"),), 0, 0, "inner"), [(WIDE[:7], "events"), more])
        self.wrong("too many columns", ("window", ("c1", "c2", "c3", "c4"), ("session", 1),
                                        (COUNT, ("o", "sum", "c1"), ("p", "sum", "c1"))), [(WIDE, "events")])

    def test_the_order_of_the_faults(self):
        table = [TABLE]
        self.lost("x", ("window", ("x",), ("tumble", 1), (("start", "sum", "b"),)), table)
        self.wrong("types differ", ("window", ("a",), ("tumble", 1), (("a", "sum", "b"),)), table)
        self.wrong("events are wanted", ("window", ("a",), ("tumble", 1), (("a", "sum", "a"),)), table)
        self.wrong("a is there twice", ("window", ("a",), ("tumble", 1), (("a", "sum", "a"),)))
        self.lost("x", ("near", (("a", "e"), ("b", "x")), 0, 0, "left"), [TABLE, (RIGHT, "table")])
        self.wrong("types differ", ("near", (("a", "b"),), 0, 0, "left"), [TABLE, TABLE])
        self.wrong("events are wanted", ("near", (("a", "a"),), 0, 0, "left"), [EVENTS, TABLE])
        self.wrong("events are wanted", ("asof", (("a", "a"),), "left"), [TABLE, EVENTS])
        self.wrong("events are wanted", ("asof", (("c1", "c2"),), "left"), [(WIDE, "table"), (WIDE, "events")])
        self.wrong("c0 is there twice", ("asof", (("c1", "c2"),), "left"), [(WIDE, "events"), (WIDE, "events")])
        self.wrong("c0 is there twice", ("join", (("c1", "c2"),)), [(WIDE, "table"), (WIDE, "table")])
        self.lost("x", ("first", ("x",), 1), table)
        self.wrong("types differ", ("map", (("x", MIXED), ("x", A))), table)
        self.wrong("x is there twice", ("map", tuple(("x", A) for _ in range(9))))
        self.lost("lost", ("map", (("x", A), ("x", LOST))))


if __name__ == "__main__":
    unittest.main()
