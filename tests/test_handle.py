"""Points 31 and 32: handles that take their inputs in pieces, and go on from mark to mark."""

import unittest
from itertools import product

from tests.random_operators import WORDS, random_case
from tests.support import ExactCase, generator_of_numbers, spoil
from tideweir.errors import InvalidState
from tideweir.flows.flows import flow_of, part_of, sum_flows
from tideweir.handles.handle import Handle
from tideweir.handles.states import state_of
from tideweir.operators.define import define

PAIR = (("k", "text"), ("v", "whole"))
OTHER = (("j", "text"), ("w", "whole"))
GROUP = ("group", ("k",), (("n", "count", None),))
NEAR = ("near", (("k", "j"),), -2, 3, "left")


def random_pieces(numbers, flows):
    """Flows cut into pieces in any order: a list of pairs of a side and a piece.

    The weights of moves are cut, too; what is put in may then go above and below what it is in the end.
    """
    pieces = []
    for side, flow in enumerate(flows):
        moves = [(time, row, sign) for time, row, weight in flow
                 for sign in [weight // abs(weight)] * abs(weight) + numbers.choice(([], [1, -1]))]
        numbers.shuffle(moves)
        while moves:
            many = numbers.randint(1, len(moves))
            pieces.append((side, flow_of(moves[:many])))
            moves = moves[many:]
    numbers.shuffle(pieces)
    return pieces


class Steps(ExactCase):
    def test_a_new_handle(self):
        handle = Handle(GROUP, [PAIR])
        self.same(handle.mark, -1)
        self.same(handle.state(), (-1, [[]], [[]]))
        self.same(Handle(NEAR, [PAIR, OTHER]).state(), (-1, [[], []], [[], [], []]))
        self.same(Handle(("join", (("k", "j"),)), [PAIR, OTHER]).state(), (-1, [[], []], [[], []]))
        self.same(Handle(("union",), [PAIR, OTHER]).state(), (-1, [[], []], []))

    def test_a_group_step_by_step(self):
        handle = Handle(GROUP, [PAIR])
        self.same(handle.put(0, [(3, ("a", 1), 1), (7, ("b", 1), 1)]), None)
        self.same(handle.put(0, [(3, ("a", 2), 2)]), None)
        self.same(handle.mark, -1)
        self.same(handle.state(), (-1, [[(3, ("a", 1), 1), (3, ("a", 2), 2), (7, ("b", 1), 1)]], [[]]))
        self.same(handle.advance(2), [])
        self.same(handle.mark, 2)
        self.same(handle.advance(3), [(3, ("a", 3), 1)])
        self.same(handle.state(), (3, [[(7, ("b", 1), 1)]], [[(("a", 1), 1), (("a", 2), 2)]]))
        self.same(handle.put(0, [(5, ("a", 1), -1), (7, ("b", 1), -1)]), None)
        self.same(handle.state()[1], [[(5, ("a", 1), -1)]])
        self.same(handle.advance(1000000), [(5, ("a", 2), 1), (5, ("a", 3), -1)])
        self.same(handle.state(), (1000000, [[]], [[(("a", 2), 2)]]))
        self.same(handle.advance(1000000), [])

    def test_a_near_step_by_step(self):
        handle = Handle(NEAR, [PAIR, OTHER])
        handle.put(1, [(4, ("a", 1), 1), (9, ("b", 2), 2)])
        handle.put(0, [(5, ("a", 1), 1), (6, ("b", 2), 1), (6, ("c", 3), 1)])
        self.same(handle.advance(5), [(5, ("a", 1, "a", 1), 1)])
        self.same(handle.advance(8), [])
        self.same(handle.state(), (8, [[], [(9, ("b", 2), 2)]], [
            [(6, ("b", 2), 1), (6, ("c", 3), 1)], [], [(6, ("b", 2), 1), (6, ("c", 3), 1)]]))
        self.same(handle.advance(9), [(9, ("b", 2, "b", 2), 2), (9, ("c", 3, None, None), 1)])

    def test_a_partner_that_is_not_kept_any_more_still_counts(self):
        handle = Handle(("near", (("k", "j"),), -2, 9, "left"), [PAIR, OTHER])
        handle.put(1, [(4, ("a", 1), 1)])
        handle.put(0, [(5, ("a", 1), 1)])
        self.same(handle.advance(7), [(5, ("a", 1, "a", 1), 1)])
        self.same(handle.state(), (7, [[], []], [[(5, ("a", 1), 1)], [], []]))
        self.same(Handle.resumed(("near", (("k", "j"),), -2, 9, "left"), [PAIR, OTHER], handle.state()).advance(99), [])
        self.same(handle.advance(99), [])

    def test_a_session_goes_on(self):
        handle = Handle(("window", ("k",), ("session", 3), (("n", "count", None),)), [PAIR])
        handle.put(0, [(1, ("a", 1), 1)])
        self.same(handle.advance(2), [])
        handle.put(0, [(3, ("a", 2), 1)])
        self.same(handle.advance(4), [])
        self.same(handle.advance(5), [(5, ("a", 1, 6, 2), 1)])
        handle.put(0, [(6, ("a", 2), 1)])
        self.same(handle.advance(10), [(8, ("a", 6, 9, 1), 1)])

    def test_a_first_at_the_edge_of_its_ttl(self):
        for time, comes in ((8, False), (9, True)):
            handle = Handle(("first", ("k",), 5), [PAIR])
            handle.put(0, [(4, ("a", 1), 3)])
            self.same(handle.advance(6), [(4, ("a", 1), 1)])
            handle.put(0, [(time, ("a", 2), 2)])
            self.same(handle.advance(7), [])
            self.same(handle.advance(20), [(time, ("a", 2), 1)] if comes else [])

    def test_mark_zero_and_the_end(self):
        for first in (-1, 0, 1000000):
            handle = Handle(("distinct",), [PAIR])
            handle.put(0, [(0, ("a", 1), 1), (999999, ("b", 1), 1)])
            told = handle.advance(first)
            self.same(told, [(0, ("a", 1), 1), (999999, ("b", 1), 1)][:{-1: 0, 0: 1, 1000000: 2}[first]])
            self.same(sum_flows([told, handle.advance(1000000)]), [(0, ("a", 1), 1), (999999, ("b", 1), 1)])


class Wrong(ExactCase):
    def test_moves_that_are_not_above_the_mark(self):
        for word, side in (("near", 1), ("near", 0), ("group", 0)):
            handle = Handle(NEAR, [PAIR, OTHER]) if word == "near" else Handle(GROUP, [PAIR])
            handle.put(side, [(9, ("a", 1), 1)])
            handle.advance(5)
            before = handle.state()
            for moves in ([(5, ("a", 1), 1)], [(4, ("a", 1), 1)], [(5, ("a", 1), 1), (6, ("a", 1), 1)],
                          [(0, ("b", 0), -1), (9, ("b", 0), 1)]):
                self.refused(InvalidState, "the mark is past", handle.put, side, moves)
                self.same(handle.state(), before)
            handle.put(side, [(6, ("a", 1), 1)])
            handle.put(side, [])
            self.same(handle.state()[1][side], [(6, ("a", 1), 1), (9, ("a", 1), 1)])

    def test_a_move_at_the_end_of_a_piece(self):
        handle = Handle(GROUP, [PAIR])
        handle.advance(7)
        self.refused(InvalidState, "the mark is past", handle.put, 0, [(7, ("z", 1), 1)])
        self.refused(InvalidState, "the mark is past", handle.put, 0, [(3, ("z", 1), 1), (8, ("z", 1), 1)])
        self.same(handle.state(), (7, [[]], [[]]))

    def test_marks_that_fall(self):
        handle = Handle(GROUP, [PAIR])
        handle.put(0, [(3, ("a", 1), 1), (9, ("a", 1), 1)])
        handle.advance(6)
        before = handle.state()
        for mark in (5, 0, -1):
            self.refused(InvalidState, "marks never fall", handle.advance, mark)
            self.same((handle.mark, handle.state()), (6, before))
        self.same(handle.advance(6), [])
        self.same(handle.state(), before)

    def test_a_mark_that_stays_tells_nothing(self):
        handle = Handle(GROUP, [PAIR])
        self.same(handle.advance(-1), [])
        handle.put(0, [(0, ("a", 1), 1)])
        self.same(handle.advance(-1), [])
        self.same(handle.advance(0), [(0, ("a", 1), 1)])
        self.same(handle.advance(0), [])


class AnyOrder(ExactCase):
    def pieces(self, seed, many):
        numbers = generator_of_numbers(seed)
        for word, _ in product(WORDS, range(many)):
            operator, fields, flows = random_case(numbers, word, 14)
            yield numbers, operator, fields, flows, random_pieces(numbers, flows)

    def walk(self, numbers, handle, pieces):
        """Put the pieces in, with marks in between that do not overtake them; yield what is told."""
        left = list(pieces)
        while left:
            side, piece = left.pop(0)
            handle.put(side, piece)
            if numbers.random() < 0.5:
                floor = min([piece[0][0] for _, piece in left if piece], default=40) - 1
                if floor >= handle.mark:
                    yield handle.advance(numbers.randint(handle.mark, min(floor, 40)))

    def test_what_is_told_is_the_part_of_the_definition(self):
        for numbers, operator, fields, flows, pieces in self.pieces(71, 30):
            handle, told = Handle(operator, fields), []
            for moves in self.walk(numbers, handle, pieces):
                told.append(moves)
                self.same(sum_flows(told), part_of(define(operator, fields, flows), -1, handle.mark))
            for mark in range(handle.mark, 45):
                told.append(handle.advance(mark))
                self.same(sum_flows(told), part_of(define(operator, fields, flows), -1, mark))

    def test_time_by_time(self):
        numbers = generator_of_numbers(72)
        for word, _ in product(WORDS, range(20)):
            operator, fields, flows = random_case(numbers, word, 14)
            handle, told = Handle(operator, fields), []
            for mark in range(-1, 45, numbers.randint(1, 3)):
                for side, flow in enumerate(flows):
                    handle.put(side, part_of(flow, handle.mark, mark))
                piece = handle.advance(mark)
                told.append(piece)
                self.same(sum_flows(told), part_of(define(operator, fields, flows), -1, mark))
                self.same(handle.state(), state_of(operator, fields, [part_of(flow, -1, mark) for flow in flows], mark))

    def test_the_state_is_that_of_the_inputs(self):
        for numbers, operator, fields, flows, pieces in self.pieces(73, 15):
            handle, inputs = Handle(operator, fields), [[] for _ in fields]
            for side, piece in pieces:
                handle.put(side, piece)
                inputs[side] = sum_flows([inputs[side], piece])
                self.same(handle.state(), state_of(operator, fields, inputs, -1))
            for mark in sorted(numbers.randint(0, 40) for _ in range(4)):
                handle.advance(mark)
                self.same(handle.mark, mark)
                self.same(handle.state(), state_of(operator, fields, flows, mark))

    def test_resumed_and_forked_handles_go_on_alike(self):
        for numbers, operator, fields, flows, pieces in self.pieces(74, 12):
            handles = [Handle(operator, fields)]
            for mark in [-1] + sorted(numbers.randint(0, 30) for _ in range(3)):
                told = [handle.advance(mark) for handle in handles]
                for one in told:
                    self.same(one, told[0])
                handles.append(handles[-1].fork())
                handles.append(Handle.resumed(operator, fields, handles[0].state()))
                if mark == -1:
                    for handle, (side, piece) in product(handles, pieces):
                        handle.put(side, piece)
                for handle in handles:
                    self.assertIs(type(handle), Handle)
                    self.same((handle.mark, handle.state()), (mark, handles[0].state()))
            wanted = part_of(define(operator, fields, flows), handles[0].mark, 1000000)
            for handle in handles:
                self.same(handle.advance(1000000), wanted)


class Apart(ExactCase):
    def test_a_fork_is_on_its_own(self):
        numbers = generator_of_numbers(75)
        for word in WORDS:
            operator, fields, flows = random_case(numbers, word, 20)
            handle = Handle(operator, fields)
            for side, flow in enumerate(flows):
                handle.put(side, flow)
            handle.advance(9)
            fork, before = handle.fork(), handle.state()
            for side, flow in enumerate(flows):
                fork.put(side, part_of(flow, 9, 99))
            self.same(handle.state(), before)
            fork.advance(99)
            self.same((handle.mark, handle.state()), (9, before))
            fork, wanted = handle.fork(), state_of(operator, fields, flows, 9)
            handle.advance(99)
            self.same((fork.mark, fork.state()), (9, wanted))

    def test_nothing_that_was_handed_in_or_out_is_kept(self):
        numbers = generator_of_numbers(76)
        for word, _ in product(WORDS, range(5)):
            operator, fields, flows = random_case(numbers, word, 14)
            own = list(fields)
            handle, told = Handle(operator, own), []
            spoil(own)
            for mark in (4, 12, 30, 60):
                for side, flow in enumerate(flows):
                    piece = part_of(flow, handle.mark, mark + 3) if handle.mark == -1 else part_of(
                        flow, handle.mark + 3, mark + 3)
                    self.leaves_argument(handle, side, piece)
                    spoil(piece)
                moves = handle.advance(mark)
                told += moves
                spoil(moves)
                state = handle.state()
                spoil(state)
                self.same(handle.state(), state_of(operator, fields, [part_of(flow, -1, mark + 3) for flow in flows],
                                                   mark))
            self.same(sum_flows([told]), part_of(define(operator, fields, flows), -1, 60))

    def leaves_argument(self, handle, side, piece):
        before = repr(piece)
        handle.put(side, piece)
        self.same(repr(piece), before)

    def test_a_state_that_was_resumed_from_is_not_kept(self):
        numbers = generator_of_numbers(77)
        for word in WORDS:
            operator, fields, flows = random_case(numbers, word, 20)
            state, wanted = state_of(operator, fields, flows, 9), state_of(operator, fields, flows, 9)
            own = list(fields)
            handle = Handle.resumed(operator, own, state)
            spoil(state)
            spoil(own)
            self.same(handle.state(), wanted)
            handle.advance(30)
            self.same(handle.state(), state_of(operator, fields, flows, 30))
            state = handle.state()
            before = repr(state)
            other = Handle.resumed(operator, fields, state)
            other.advance(99)
            self.same(repr(state), before)


if __name__ == "__main__":
    unittest.main()
