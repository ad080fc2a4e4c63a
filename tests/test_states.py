"""Points 33 to 37: the states of operators at marks, split by key groups and joined again."""

import unittest
from itertools import product

from tests.plain_states import plain_split, plain_state
from tests.random_operators import LEFT, RIGHT, WORDS, random_case, random_operator, sides_of_word
from tests.support import ExactCase, generator_of_numbers
from tideweir.errors import InvalidState
from tideweir.flows.flows import sum_flows, table_at
from tideweir.handles.handle import Handle
from tideweir.handles.states import binding_columns, join_states, kept_of, split_state, state_of
from tideweir.values.keys import group_of, key_of

PAIR = (("k", "text"), ("v", "whole"))
OTHER = (("j", "text"), ("w", "whole"))
KJ = (("k", "j"),)
COUNT = (("n", "count", None),)
BOUND = tuple(word for word in WORDS if word not in ("filter", "map", "union"))


def random_binding(numbers, operator, fields):
    """Some of the columns that bind an operator, at the same places on all sides and in any order."""
    binding = binding_columns(operator, fields)
    if binding is None or not binding[0]:
        return [None if binding is None or numbers.random() < 0.5 else () for _ in fields]
    places = numbers.sample(range(len(binding[0])), numbers.randint(1, len(binding[0])))
    return [tuple(columns[place] for place in places) for columns in binding]


def random_groups(numbers):
    """The key groups dealt out into one to four parts."""
    parts = [[] for _ in range(numbers.randint(1, 4))]
    for group in range(16):
        numbers.choice(parts).append(group)
    return parts


class Binding(ExactCase):
    def binds(self, operator, wanted, fields=(PAIR,)):
        self.same(binding_columns(operator, list(fields)), wanted)

    def test_what_binds_nothing(self):
        self.binds(("filter", ("value", True)), None)
        self.binds(("map", (("x", ("column", "k")),)), None)
        self.binds(("union",), None, (PAIR, OTHER))

    def test_keys(self):
        for keys in ((), ("k",), ("v", "k")):
            self.binds(("group", keys, COUNT), [keys])
            self.binds(("top", keys, (("v", "up"),), 3), [keys])
            self.binds(("window", keys, ("tumble", 5), COUNT), [keys])
        self.binds(("first", ("v",), 5), [("v",)])
        self.binds(("first", ("v", "k"), 5), [("v", "k")])

    def test_pairs(self):
        for on, wanted in ((KJ, [("k",), ("j",)]), ((("v", "w"), ("k", "j")), [("v", "k"), ("w", "j")])):
            self.binds(("join", on), wanted, (PAIR, OTHER))
            self.binds(("asof", on, "left"), wanted, (PAIR, OTHER))
            self.binds(("near", on, 0, 0, "inner"), wanted, (PAIR, OTHER))

    def test_distinct(self):
        self.binds(("distinct",), [("k", "v")])
        self.binds(("distinct",), [("a",)], ((("a", "flag"),),))

    def test_arguments_are_left_alone(self):
        self.leaves_alone(binding_columns, ("join", KJ), [PAIR, OTHER])
        self.leaves_alone(binding_columns, ("distinct",), [PAIR])
        self.leaves_alone(binding_columns, ("group", ("k",), COUNT), [PAIR])


class Kept(ExactCase):
    FLOW = [(2, ("a", 1), 2), (4, ("b", 2), 1), (6, ("a", 3), 1)]
    RIGHT = [(1, ("a", 7), 1), (4, ("a", 8), 1), (5, ("c", 9), 1)]

    def keeps(self, operator, flows, *wanted):
        """What is kept at the marks that are told, each with what stands behind it."""
        fields = [PAIR, OTHER][:len(flows)]
        for mark, kept in wanted:
            self.same(kept_of(operator, fields, flows, mark), kept)
            pending = [[move for move in flow if move[0] > mark] for flow in flows]
            self.same(state_of(operator, fields, flows, mark), (mark, pending, kept))

    def test_what_keeps_nothing(self):
        for operator in (("filter", ("value", True)), ("map", (("x", ("column", "k")),))):
            self.keeps(operator, [self.FLOW], (-1, []), (4, []), (1000000, []))
        self.keeps(("union",), [self.FLOW, self.RIGHT], (-1, []), (4, []), (1000000, []))

    def test_tables(self):
        for operator in (("distinct",), ("group", ("k",), COUNT), ("top", ("k",), (("v", "up"),), 1)):
            flow = self.FLOW + [(7, ("a", 1), -2)]
            self.keeps(operator, [flow], (-1, [[]]), (1, [[]]), (2, [[(("a", 1), 2)]]), (3, [[(("a", 1), 2)]]),
                       (6, [[(("a", 1), 2), (("a", 3), 1), (("b", 2), 1)]]), (7, [[(("a", 3), 1), (("b", 2), 1)]]),
                       (1000000, [[(("a", 3), 1), (("b", 2), 1)]]))

    def test_join_and_asof(self):
        one, other = [(("a", 1), 2), (("b", 2), 1)], [(("a", 7), 1), (("a", 8), 1)]
        both = [self.FLOW, self.RIGHT]
        self.keeps(("join", KJ), both, (-1, [[], []]), (1, [[], other[:1]]), (4, [one, other]))
        for keep in ("inner", "left"):
            self.keeps(("asof", KJ, keep), both, (-1, [[]]), (1, [other[:1]]), (4, [other]),
                       (1000000, [other + [(("c", 9), 1)]]))

    def test_windows(self):
        flow = self.FLOW
        tumble = ("window", ("k",), ("tumble", 5), COUNT)
        self.keeps(tumble, [flow], (-1, [[]]), (1, [[]]), (2, [flow[:1]]), (3, [flow[:1]]), (4, [[]]), (5, [[]]),
                   (6, [flow[2:]]), (8, [flow[2:]]), (9, [[]]), (1000000, [[]]))
        hop = ("window", (), ("hop", 4, 2), COUNT)
        self.keeps(hop, [flow], (2, [flow[:1]]), (3, [flow[:1]]), (4, [flow[:2]]), (5, [flow[1:2]]), (6, [flow[1:]]),
                   (7, [flow[2:]]), (8, [flow[2:]]), (9, [[]]))

    def test_sessions(self):
        flow = self.FLOW
        by_key, over_all = [("window", keys, ("session", 3), COUNT) for keys in (("k",), ())]
        self.keeps(by_key, [flow], (1, [[]]), (2, [flow[:1]]), (3, [flow[:1]]), (4, [flow[1:2]]), (5, [flow[1:2]]),
                   (6, [flow[2:]]), (7, [flow[2:]]), (8, [[]]))
        self.keeps(over_all, [flow], (2, [flow[:1]]), (3, [flow[:1]]), (4, [flow[:2]]), (5, [flow[:2]]), (6, [flow]),
                   (7, [flow]), (8, [[]]))

    def test_near(self):
        both, left, right = [self.FLOW, self.RIGHT], self.FLOW, self.RIGHT
        near = ("near", KJ, -2, 3, "left")
        self.keeps(near, both, (-1, [[], [], []]), (1, [[], right[:1], []]), (2, [left[:1], right[:1], []]),
                   (3, [left[:1], [], []]), (4, [left[:2], right[1:2], left[1:2]]),
                   (5, [left[1:2], right[1:], left[1:2]]), (6, [left[1:], right[2:], left[1:2]]),
                   (7, [left[2:], [], []]), (9, [[], [], []]))
        self.keeps(near[:-1] + ("inner",), both, (4, [left[:2], right[1:2], []]), (5, [left[1:2], right[1:], []]))

    def test_near_without_a_partner_yet(self):
        flows = [[(5, ("a", 1), 1)], [(7, ("a", 2), 1)]]
        self.keeps(("near", KJ, 0, 3, "left"), flows, (4, [[], [], []]), (5, [flows[0], [], flows[0]]),
                   (6, [flows[0], [], flows[0]]), (7, [flows[0], [], []]), (8, [[], [], []]))
        self.keeps(("near", KJ, 3, 5, "left"), flows, (7, [flows[0], [], flows[0]]), (9, [flows[0], [], flows[0]]),
                   (10, [[], [], []]))
        self.keeps(("near", KJ, -9, -3, "left"), flows, (5, [[], [], []]), (7, [[], flows[1], []]),
                   (15, [[], flows[1], []]), (16, [[], [], []]))

    def test_first(self):
        flow = [(2, ("a", 1), 2), (4, ("a", 2), 1), (5, ("b", 0), 3), (7, ("a", 5), 1)]
        out = [(2, ("a", 1), 1), (5, ("b", 0), 1), (7, ("a", 5), 1)]
        self.keeps(("first", ("k",), 5), [flow], (1, [[]]), (2, [out[:1]]), (4, [out[:1]]), (5, [out[:2]]),
                   (6, [out[1:2]]), (7, [out[1:]]), (8, [out[1:]]), (9, [out[2:]]), (10, [out[2:]]), (11, [[]]))
        self.keeps(("first", ("k",), 1), [flow], (2, [[]]), (7, [[]]))
        self.keeps(("first", ("k",), 2), [flow], (2, [[(2, ("a", 1), 1)]]), (3, [[]]), (4, [[(4, ("a", 2), 1)]]))

    def test_they_are_what_the_document_says(self):
        numbers = generator_of_numbers(61)
        for word, _ in product(WORDS, range(40)):
            operator, fields, flows = random_case(numbers, word)
            for mark in (-1, numbers.randint(0, 25), numbers.randint(0, 25), 60, 1000000):
                wanted = plain_state(operator, fields, flows, mark)
                self.same(state_of(operator, fields, flows, mark), wanted)
                self.same(kept_of(operator, fields, flows, mark), wanted[2])

    def test_arguments_are_left_alone(self):
        numbers = generator_of_numbers(62)
        for word in WORDS:
            case = random_case(numbers, word)
            self.leaves_alone(kept_of, *case, 12)
            self.leaves_alone(state_of, *case, 12)


class Split(ExactCase):
    def test_by_columns_and_groups(self):
        flow = [(3, ("a", 1), 1), (8, ("a", 1), 1), (8, ("b", 1), 2), (9, (None, 4), 1)]
        state = (5, [flow[1:]], [[(("a", 1), 1), (("c", None), 7)]])
        for columns in (("k",), ("v",), ("v", "k"), ("k", "v"), ()):
            for group in range(16):
                wanted = [group_of(key_of(row, PAIR, columns)) == group for row in (("a", 1), ("b", 1), (None, 4),
                                                                                   ("c", None))]
                found = split_state(("group", ("k",), COUNT), [PAIR], [columns], state, [group])
                self.same(found, (5, [[move for move, stays in zip(flow[1:], wanted[:3]) if stays]],
                                  [[pair for pair, stays in zip(state[2][0], (wanted[0], wanted[3])) if stays]]))

    def test_without_columns(self):
        state = (5, [[(8, ("a", 1), 1)]], [[(("a", 1), 1), (("c", None), 7)]])
        for groups, stays in (([0], True), ([3, 0, 5], True), ([], False), ([1], False), (list(range(1, 16)), False)):
            self.same(split_state(("distinct",), [PAIR], [None], state, groups), state if stays else (5, [[]], [[]]))

    def test_each_side_by_its_own_columns(self):
        near = (5, [[(6, ("a", 1), 1)], [(7, ("a", 2), 1)]],
                [[(4, ("a", 1), 1)], [(4, ("a", 2), 1)], [(3, ("a", 1), 1)]])
        join = (5, near[1], [[(("a", 1), 1)], [(("a", 2), 1)]])
        asof = (5, near[1], [[(("a", 2), 1)]])
        union = (5, near[1], [])
        for operator, state, sides in ((("near", KJ, 0, 1, "left"), near, (0, 1, 0)), (("join", KJ), join, (0, 1)),
                                       (("asof", KJ, "left"), asof, (1,)), (("union",), union, ())):
            for columns in ([None, ("j",)], [("k",), None], [("v",), ("w",)], [("k",), ("w",)]):
                for groups in ([0], [group_of(("a",))], [group_of((2,))], [group_of((1,))], [0, group_of((2,))]):
                    stays = [0 in groups if names is None else group_of(key_of(("a", 1 + side), fields, names)) in groups
                             for side, (names, fields) in enumerate(zip(columns, (PAIR, OTHER)))]
                    wanted = (5, [state[1][side] if stays[side] else [] for side in (0, 1)],
                              [items if stays[side] else [] for side, items in zip(sides, state[2])])
                    self.same(split_state(operator, [PAIR, OTHER], columns, state, groups), wanted)

    def test_they_are_what_the_document_says(self):
        numbers = generator_of_numbers(63)
        for word, _ in product(WORDS, range(30)):
            operator, fields, flows = random_case(numbers, word)
            state = state_of(operator, fields, flows, numbers.randint(-1, 25))
            columns = [numbers.choice((None, tuple(name for name, _ in own[:2]))) for own in fields]
            for groups in random_groups(numbers):
                self.same(split_state(operator, fields, columns, state, groups),
                          plain_split(operator, fields, columns, state, groups))

    def test_arguments_are_left_alone(self):
        numbers = generator_of_numbers(64)
        for word in WORDS:
            operator, fields, flows = random_case(numbers, word)
            state = state_of(operator, fields, flows, 12)
            self.leaves_alone(split_state, operator, fields, [None for _ in fields], state, [0, 1])
            columns = [tuple(name for name, _ in own) for own in fields]
            self.leaves_alone(split_state, operator, fields, columns, state, list(range(0, 16, 2)))
            self.leaves_alone(split_state, operator, fields, columns, state, list(range(16)))


class Join(ExactCase):
    def test_one_state(self):
        state = (5, [[(6, ("a", 1), 1)]], [[(("a", 1), 1)]])
        self.same(join_states(("distinct",), [state]), state)

    def test_tables_are_summed(self):
        one = (5, [[(6, ("b", 1), 1), (7, ("a", 1), 1)]], [[(("a", 1), 1), (("b", 1), 1)]])
        other = (5, [[(6, ("a", 1), 2), (7, ("a", 1), -1)]], [[(("a", 1), 2), (("b", 1), -1), (("c", 1), 1)]])
        wanted = (5, [[(6, ("a", 1), 2), (6, ("b", 1), 1)]], [[(("a", 1), 3), (("c", 1), 1)]])
        for operator in (("distinct",), ("group", (), COUNT), ("top", (), (("k", "up"),), 1)):
            self.same(join_states(operator, [one, other]), wanted)
            self.same(join_states(operator, [other, one, (5, [[]], [[]])]), wanted)

    def test_flows_are_summed(self):
        one = (5, [[(6, ("b", 1), 1)]], [[(2, ("a", 1), 1), (3, ("b", 1), 1)]])
        other = (5, [[(6, ("a", 1), 2)]], [[(2, ("a", 1), 2), (3, ("a", 1), 1)]])
        wanted = (5, [[(6, ("a", 1), 2), (6, ("b", 1), 1)]],
                  [[(2, ("a", 1), 3), (3, ("a", 1), 1), (3, ("b", 1), 1)]])
        for operator in (("window", (), ("tumble", 9), COUNT), ("first", ("v",), 9)):
            self.same(join_states(operator, [one, other]), wanted)

    def test_place_by_place(self):
        one = (3, [[(4, ("a", 1), 1)], [(5, ("a", 2), 1)]],
               [[(1, ("a", 1), 1)], [(2, ("a", 2), 1)], [(1, ("a", 1), 1)]])
        other = (3, [[], [(5, ("a", 2), 1), (6, ("a", 2), 1)]], [[(1, ("a", 1), 1)], [], [(3, ("c", 1), 1)]])
        self.same(join_states(("near", KJ, 0, 9, "left"), [one, other]), (
            3, [[(4, ("a", 1), 1)], [(5, ("a", 2), 2), (6, ("a", 2), 1)]],
            [[(1, ("a", 1), 2)], [(2, ("a", 2), 1)], [(1, ("a", 1), 1), (3, ("c", 1), 1)]]))
        one, other = (3, one[1], [[(("a", 1), 1)], [(("a", 2), 1)]]), (3, other[1], [[], [(("a", 2), 4)]])
        pending = [[(4, ("a", 1), 1)], [(5, ("a", 2), 2), (6, ("a", 2), 1)]]
        self.same(join_states(("join", KJ), [one, other]), (3, pending, [[(("a", 1), 1)], [(("a", 2), 5)]]))
        self.same(join_states(("asof", KJ, "inner"), [(3, one[1], one[2][1:]), (3, other[1], other[2][1:])]),
                  (3, pending, [[(("a", 2), 5)]]))

    def test_marks_that_differ(self):
        numbers = generator_of_numbers(65)
        for word in WORDS:
            operator, fields, flows = random_case(numbers, word)
            states = [state_of(operator, fields, flows, mark) for mark in (7, 5, 6)]
            if word in BOUND:
                self.refused(InvalidState, "marks differ", join_states, operator, states)
                self.refused(InvalidState, "marks differ", join_states, operator, [states[0], states[0], states[1]])
                self.refused(InvalidState, "marks differ", join_states, operator, [states[1], states[0]])
            else:
                pending = [sum_flows([state[1][side] for state in states]) for side in range(sides_of_word(word))]
                self.same(join_states(operator, states), (5, pending, []))
                self.same(join_states(operator, states[::-1]), (5, pending, []))

    def test_what_was_split_is_joined_again(self):
        numbers = generator_of_numbers(66)
        for word, _ in product(WORDS, range(20)):
            operator, fields, flows = random_case(numbers, word)
            state = state_of(operator, fields, flows, numbers.randint(-1, 25))
            columns = random_binding(numbers, operator, fields)
            states = [split_state(operator, fields, columns, state, groups) for groups in random_groups(numbers)]
            self.same(join_states(operator, states), state)

    def test_arguments_are_left_alone(self):
        numbers = generator_of_numbers(67)
        for word in WORDS:
            case = random_case(numbers, word)
            self.leaves_alone(join_states, case[0], [state_of(*case, 12)])
            self.leaves_alone(join_states, case[0], [state_of(*case, 12), state_of(*case, 12)])


class Parts(ExactCase):
    def test_handles_of_parts_tell_together_what_one_tells(self):
        numbers = generator_of_numbers(68)
        for word, _ in product(WORDS, range(25)):
            operator, fields, flows = random_case(numbers, word)
            columns, parts = random_binding(numbers, operator, fields), random_groups(numbers)
            whole, handles = Handle(operator, fields), [Handle(operator, fields) for _ in parts]
            for side, flow in enumerate(flows):
                whole.put(side, flow)
                for handle, groups in zip(handles, parts):
                    handle.put(side, [move for move in flow if (0 if columns[side] is None else group_of(
                        key_of(move[1], fields[side], columns[side]))) in groups])
            for mark in sorted(numbers.randint(-1, 30) for _ in range(3)):
                self.same(sum_flows([handle.advance(mark) for handle in handles]), whole.advance(mark))
                states = [handle.state() for handle in handles]
                self.same(join_states(operator, states), whole.state())
                for state, groups in zip(states, parts):
                    self.same(split_state(operator, fields, columns, whole.state(), groups), state)

    def test_a_table_that_is_kept_is_the_table_of_the_input(self):
        numbers = generator_of_numbers(69)
        for word in ("distinct", "group", "top"):
            operator, fields, flows = random_case(numbers, word, 30)
            self.same(state_of(operator, fields, flows, 12)[2], [table_at(flows[0], 12)])

    def test_operators_of_two_sides_have_as_many_columns_on_both(self):
        numbers = generator_of_numbers(70)
        for word in ("near", "asof", "join"):
            one, other = binding_columns(random_operator(numbers, word, [LEFT, RIGHT]), [LEFT, RIGHT])
            self.assertEqual(len(one), len(other))


if __name__ == "__main__":
    unittest.main()
