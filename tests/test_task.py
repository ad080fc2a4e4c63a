"""Points 48 to 52: tasks that get parcels through channels."""

import unittest
from itertools import product

from tests.random_operators import WORDS, random_case, sides_of_word
from tests.support import ExactCase, generator_of_numbers, spoil
from tideweir.errors import InvalidParcel
from tideweir.flows.flows import flow_of, part_of, sum_flows
from tideweir.handles.states import state_of
from tideweir.operators.define import define
from tideweir.tasks.task import Task

PAIR = (("k", "text"), ("v", "whole"))
OTHER = (("j", "text"), ("w", "whole"))
GROUP = ("group", ("k",), (("n", "count", None),))
JOIN = ("join", (("k", "j"),))


def random_channels(numbers, flows):
    """Sides of channels, and for each channel a list of parcels whose moves add up to the flows, side by side."""
    sides = [side for side in range(len(flows)) for _ in range(numbers.randint(1, 3))]
    numbers.shuffle(sides)
    moves = [[] for _ in sides]
    for side, flow in enumerate(flows):
        for time, row, weight in flow:
            for sign in [weight // abs(weight)] * abs(weight):
                moves[numbers.choice([channel for channel, own in enumerate(sides) if own == side])].append(
                    (time, row, sign))
    parcels = []
    for own in moves:
        marks = sorted(set(numbers.randint(0, 30) for _ in range(numbers.randint(1, 4))) | {1000000})
        floors = [-1] + marks[:-1]
        parcels.append([(mark, part_of(flow_of(own), floor, mark)) for floor, mark in zip(floors, marks)])
    return sides, parcels


class Parcels(ExactCase):
    def test_a_new_task(self):
        task = Task(GROUP, [PAIR], [0])
        self.same((task.mark, task.marks, task.state()), (-1, [-1], ([-1], (-1, [[]], [[]]))))
        task = Task(JOIN, [PAIR, OTHER], [1, 0, 1])
        self.same((task.mark, task.marks, task.state()), (-1, [-1, -1, -1], ([-1, -1, -1], (-1, [[], []], [[], []]))))

    def test_one_channel(self):
        task = Task(GROUP, [PAIR], [0])
        self.same(task.put(0, (4, [(2, ("a", 1), 1), (4, ("a", 2), 1)])),
                  (4, [(2, ("a", 1), 1), (4, ("a", 1), -1), (4, ("a", 2), 1)]))
        self.same((task.mark, task.marks), (4, [4]))
        self.same(task.put(0, (5, [])), (5, []))
        self.same(task.put(0, (1000000, [(9, ("b", 1), 1)])), (1000000, [(9, ("b", 1), 1)]))
        self.same(task.state(), ([1000000], (1000000, [[]], [[(("a", 1), 1), (("a", 2), 1), (("b", 1), 1)]])))

    def test_several_channels(self):
        task = Task(GROUP, [PAIR], [0, 0, 0])
        self.same(task.put(0, (5, [(2, ("a", 1), 1), (5, ("b", 1), 1)])), None)
        self.same(task.put(2, (3, [(2, ("a", 1), 2)])), None)
        self.same((task.mark, task.marks), (-1, [5, -1, 3]))
        self.same(task.state(), ([5, -1, 3], (-1, [[(2, ("a", 1), 3), (5, ("b", 1), 1)]], [[]])))
        self.same(task.put(1, (4, [(3, ("a", 1), 1)])), (3, [(2, ("a", 3), 1), (3, ("a", 3), -1), (3, ("a", 4), 1)]))
        self.same((task.mark, task.marks), (3, [5, 4, 3]))
        self.same(task.put(0, (6, [])), None)
        self.same(task.put(1, (9, [(5, ("b", 1), 1)])), None)
        self.same(task.put(2, (5, [])), (5, [(5, ("b", 2), 1)]))
        self.same(task.put(2, (7, [])), (6, []))
        self.same((task.mark, task.marks), (6, [6, 9, 7]))

    def test_two_sides(self):
        task = Task(JOIN, [PAIR, OTHER], [1, 0, 1])
        self.same(task.put(1, (9, [(1, ("a", 1), 1)])), None)
        self.same(task.put(0, (4, [(2, ("a", 5), 1)])), None)
        self.same(task.put(2, (3, [(3, ("a", 6), 1)])),
                  (3, [(2, ("a", 1, "a", 5), 1), (3, ("a", 1, "a", 6), 1)]))
        self.same(task.put(2, (8, [])), (4, []))

    def test_channels_at_the_same_mark(self):
        task = Task(GROUP, [PAIR], [0, 0])
        self.same(task.put(0, (5, [])), None)
        self.same(task.put(1, (5, [(0, ("a", 1), 1)])), (5, [(0, ("a", 1), 1)]))
        self.same(task.put(1, (6, [])), None)
        self.same(task.put(0, (7, [])), (6, []))

    def test_mark_0(self):
        task = Task(GROUP, [PAIR], [0, 0])
        self.same(task.put(0, (0, [(0, ("a", 1), 1)])), None)
        self.same(task.put(1, (0, [])), (0, [(0, ("a", 1), 1)]))


class Refused(ExactCase):
    def setUp(self):
        self.task = Task(GROUP, [PAIR], [0, 0])
        self.task.put(0, (5, [(3, ("a", 1), 1)]))
        self.task.put(1, (8, [(7, ("a", 1), 1)]))
        self.before = repr((self.task.mark, self.task.marks, self.task.state()))

    def wrong(self, message, channel, parcel):
        self.refused(InvalidParcel, message, self.task.put, channel, parcel)
        self.same(eval(self.before), (self.task.mark, self.task.marks, self.task.state()))

    def test_marks_that_go_back_or_stay(self):
        for channel, mark in ((0, 5), (0, 4), (0, 0), (1, 8), (1, 7), (1, 6)):
            self.wrong("parcels never go back", channel, (mark, []))
        self.wrong("parcels never go back", 0, (0, []))

    def test_moves_that_come_too_late(self):
        for moves in ([(5, ("a", 1), 1)], [(4, ("a", 1), 1)], [(0, ("a", 1), 1), (6, ("a", 1), 1)],
                      [(5, ("a", 1), 1), (9, ("a", 1), 1)]):
            self.wrong("the mark is past", 0, (9, moves))
        self.wrong("the mark is past", 1, (9, [(8, ("a", 1), 1)]))
        self.wrong("the mark is past", 1, (9, [(6, ("a", 1), 1)]))

    def test_moves_above_the_parcels_own_mark(self):
        for moves in ([(7, ("a", 1), 1)], [(6, ("a", 1), 1), (7, ("b", 1), 1)], [(999999, ("a", 1), 1)]):
            self.wrong("the parcel is ahead of itself", 0, (6, moves))
        self.wrong("the parcel is ahead of itself", 1, (9, [(9, ("a", 1), 1), (10, ("a", 1), 1)]))

    def test_the_first_reason(self):
        self.wrong("parcels never go back", 0, (5, [(5, ("a", 1), 1), (6, ("a", 1), 1)]))
        self.wrong("parcels never go back", 0, (4, [(6, ("a", 1), 1)]))
        self.wrong("the mark is past", 0, (6, [(5, ("a", 1), 1), (7, ("a", 1), 1)]))
        self.wrong("the mark is past", 0, (6, [(1, ("a", 1), 1), (7, ("a", 1), 1)]))

    def test_it_goes_on_behind_what_was_refused(self):
        self.wrong("parcels never go back", 0, (5, []))
        self.same(self.task.put(0, (6, [(6, ("a", 1), 1)])), (6, [(6, ("a", 1), -1), (6, ("a", 2), 1)]))
        self.same(self.task.put(0, (9, [(7, ("a", 1), 1)])), (8, [(7, ("a", 2), -1), (7, ("a", 4), 1)]))

    def test_the_first_parcel(self):
        task = Task(GROUP, [PAIR], [0])
        self.refused(InvalidParcel, "the parcel is ahead of itself", task.put, 0, (0, [(1, ("a", 1), 1)]))
        self.same(task.marks, [-1])
        self.same(task.put(0, (0, [(0, ("a", 1), 1)])), (0, [(0, ("a", 1), 1)]))


class AnyOrder(ExactCase):
    def test_what_is_answered(self):
        numbers = generator_of_numbers(95)
        for word, _ in product(WORDS, range(25)):
            operator, fields, flows = random_case(numbers, word, 14)
            sides, parcels = random_channels(numbers, flows)
            task, told, marks, put = Task(operator, fields, sides), [], [], [[] for _ in fields]
            wanted, reached = define(operator, fields, flows), [-1 for _ in sides]
            while any(parcels):
                channel = numbers.choice([channel for channel, left in enumerate(parcels) if left])
                parcel = parcels[channel].pop(0)
                before = repr(parcel)
                answer = task.put(channel, parcel)
                self.same(repr(parcel), before)
                old, reached[channel] = min(reached), parcel[0]
                put[sides[channel]] = sum_flows([put[sides[channel]], parcel[1]])
                self.assertEqual(answer is None, min(reached) == old)
                if answer is not None:
                    self.same((type(answer), answer[0]), (tuple, min(reached)))
                    marks.append(answer[0])
                    told.append(answer[1])
                self.same((task.mark, task.marks), (min(reached), reached))
                self.same(sum_flows(told), part_of(wanted, -1, task.mark))
                self.same(task.state(), (reached, state_of(operator, fields, put, min(reached))))
            self.same(marks, sorted(set(marks)))
            self.same(sum_flows(told), wanted)

    def test_the_state_does_not_depend_on_the_order_or_the_channels(self):
        numbers = generator_of_numbers(96)
        for word, _ in product(WORDS, range(10)):
            operator, fields, flows = random_case(numbers, word)
            tasks = []
            for _ in range(2):
                sides = list(range(sides_of_word(word))) * 2
                task = Task(operator, fields, sides)
                for channel in numbers.sample(range(len(sides)), len(sides)):
                    own = flows[sides[channel]]
                    half = len(own) // 2
                    task.put(channel, (25, own[:half] if channel < len(fields) else own[half:]))
                tasks.append(task)
            self.same(tasks[0].state(), tasks[1].state())

    def test_resumed_and_forked_tasks_go_on_alike(self):
        numbers = generator_of_numbers(97)
        for word, _ in product(WORDS, range(10)):
            operator, fields, flows = random_case(numbers, word, 14)
            sides, parcels = random_channels(numbers, flows)
            tasks = [Task(operator, fields, sides)]
            while any(parcels):
                channel = numbers.choice([channel for channel, left in enumerate(parcels) if left])
                if len(tasks) < 6 and numbers.random() < 0.5:
                    tasks.append(numbers.choice(tasks).fork())
                    tasks.append(Task.resumed(operator, fields, sides, numbers.choice(tasks).state()))
                parcel = parcels[channel].pop(0)
                told = [task.put(channel, parcel) for task in tasks]
                for task, answer in zip(tasks, told):
                    self.assertIs(type(task), Task)
                    self.same(answer, told[0])
                    self.same((task.mark, task.marks, task.state()),
                              (tasks[0].mark, tasks[0].marks, tasks[0].state()))


class Apart(ExactCase):
    def task(self, sides=(0, 0)):
        task = Task(GROUP, [PAIR], list(sides))
        task.put(0, (5, [(3, ("a", 1), 1), (5, ("b", 1), 1)]))
        task.put(1, (4, [(4, ("a", 1), 1)]))
        return task

    def test_a_fork_is_on_its_own(self):
        task, other = self.task(), self.task()
        fork, before = task.fork(), task.state()
        fork.put(1, (9, [(6, ("a", 1), 1)]))
        self.same((task.mark, task.marks, task.state()), (4, [5, 4], before))
        self.same(task.put(1, (9, [(5, ("c", 1), 1)])), other.put(1, (9, [(5, ("c", 1), 1)])))
        self.same((fork.mark, fork.marks), (5, [5, 9]))
        fork, before = task.fork(), task.state()
        task.put(0, (10, []))
        self.same((fork.marks, fork.state()), ([5, 9], before))

    def test_nothing_that_was_handed_in_or_out_is_kept(self):
        fields, sides, moves = [PAIR], [0, 0], [(3, ("a", 1), 1), (5, ("b", 1), 1)]
        task, other = Task(GROUP, fields, sides), self.task()
        spoil(fields)
        spoil(sides)
        task.put(0, (5, moves))
        spoil(moves)
        answer = task.put(1, (4, [(4, ("a", 1), 1)]))
        spoil(answer)
        spoil(task.marks)
        spoil(task.state())
        self.same((task.mark, task.marks, task.state()), (4, [5, 4], other.state()))
        self.same(task.put(1, (8, [])), other.put(1, (8, [])))
        self.same(task.fork().put(0, (9, [])), other.put(0, (9, [])))

    def test_what_was_resumed_from_is_not_kept(self):
        state, fields, sides = self.task().state(), [PAIR], [0, 0]
        wanted = repr(state)
        task = Task.resumed(GROUP, fields, sides, state)
        self.same(task.put(1, (9, [])), (5, [(5, ("b", 1), 1)]))
        self.same(repr(state), wanted)
        task = Task.resumed(GROUP, fields, sides, state)
        spoil(state)
        spoil(fields)
        spoil(sides)
        self.same(repr(task.state()), wanted)
        self.same(task.fork().put(1, (9, [(6, ("a", 1), 1)])), (5, [(5, ("b", 1), 1)]))


if __name__ == "__main__":
    unittest.main()
