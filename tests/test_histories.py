"""Points 64 to 73 behind drawn histories: steps, triggers of both kinds, crashes, restores and appended entries."""

import unittest

from tests.plain_engine import PlainEngine, what_is_told
from tests.plain_meanings import plain_meaning, up_to
from tests.random_graphs import FIELDS_OF, partitions_wanted, random_entries, random_graph, random_logs
from tests.support import ExactCase, generator_of_numbers
from tideweir.engines.engine import Engine
from tideweir.graphs.graphs import plan_of

END = ("mark", 1000000)


class Histories(ExactCase):
    def drawn(self, seed, likely=0.05):
        """An engine, the same written down once more, and how likely a crash is."""
        numbers = generator_of_numbers(seed)
        graph = random_graph(numbers)
        logs = random_logs(numbers, partitions=partitions_wanted(graph))
        room = numbers.choice((1, 1, 2, 3, 8))
        self.likely = numbers.choice((0, likely, 2 * likely))
        return numbers, Engine(graph, logs, room), PlainEngine(graph, logs, room)

    def append(self, numbers, engine, plain):
        """Append entries somewhere."""
        name = numbers.choice([operator[1] for operator, _, _ in plain.stages if operator[0] == "source"])
        partition = numbers.randrange(len(plain.logs[name]))
        entries = random_entries(numbers, FIELDS_OF[name], numbers.randint(0, 3))
        plain.logs[name][partition] += entries
        self.same(engine.append(name, partition, entries), len(plain.logs[name][partition]))

    def step(self, numbers, engine, plain):
        """Do something that is drawn, to both."""
        drawn = numbers.random()
        if drawn < 0.04:
            self.append(numbers, engine, plain)
        elif plain.is_down:
            if numbers.random() < 0.6:
                self.same(engine.restore(), plain.restore())
        elif drawn < 0.04 + self.likely:
            self.same(engine.crash(), plain.crash())
        elif drawn < 0.24 and plain.status.get(plain.number) not in ("under way", "complete"):
            how = numbers.choice(("aligned", "swift"))
            self.same(engine.trigger(how), plain.trigger(how))
        elif plain.choices():
            choice = numbers.choice(plain.choices())
            self.same(engine.do(choice), plain.do(choice))

    def test_they_are_what_the_document_says(self):
        seen = {}
        for seed in range(250):
            numbers, engine, plain = self.drawn(seed)
            for _ in range(numbers.randint(10, 90)):
                self.step(numbers, engine, plain)
                self.same(what_is_told(engine, plain), plain.told())
                self.same(engine.states(), plain.states())
            for number in engine.checkpoints:
                self.same(engine.checkpoint(number), plain.taken[number])
            for word in plain.status.values():
                seen[word] = seen.get(word, 0) + 1
        self.assertTrue(all(seen.get(word, 0) > 1 for word in ("under way", "complete", "committed", "lost")))

    def test_all_checkpoints_of_long_histories(self):
        for seed in range(40):
            numbers, engine, plain = self.drawn(seed, 0.01)
            taken = 0
            for _ in range(300):
                self.step(numbers, engine, plain)
                if len(plain.taken) > taken:
                    taken = len(plain.taken)
                    self.same(engine.checkpoint(max(plain.taken)), plain.taken[max(plain.taken)])
            self.same(engine.checkpoints, sorted(plain.taken)[-8:])

    def test_what_is_committed_is_the_part_of_the_meaning(self):
        for seed in range(150):
            numbers, engine, plain = self.drawn(seed)
            plan, before = plan_of(plain.graph), -1
            for _ in range(numbers.randint(10, 90)):
                self.step(numbers, engine, plain)
                whole = plain_meaning(plan, plain.logs)
                self.assertGreaterEqual(engine.mark, before)
                before = engine.mark
                self.same(engine.committed(), up_to(whole, engine.mark))
                self.same(engine.output(), up_to(whole, max(engine.mark, engine.task_marks()[-1][0])))

    def test_there_is_a_choice_as_long_as_something_is_left(self):
        for seed in range(150):
            numbers, engine, plain = self.drawn(seed)
            for _ in range(numbers.randint(10, 60)):
                self.step(numbers, engine, plain)
            if engine.is_down:
                engine.restore()
            while engine.choices():
                choices = engine.choices()
                engine.do(choices[(0, -1, numbers.randrange(len(choices)))[seed % 3]])
            self.assertEqual(set(engine.queues), {0})
            for stage, partition, read in engine.progress:
                self.same(read, len(plain.logs[plain.stages[stage][0][1]][partition]))
            for number in plain.status:
                self.assertIn(engine.status(number), ("lost", "committed"))

    def test_at_the_end_the_whole_meaning_is_committed(self):
        for seed in range(150):
            numbers, engine, plain = self.drawn(seed)
            for _ in range(numbers.randint(10, 90)):
                self.step(numbers, engine, plain)
            if engine.is_down:
                engine.restore()
            for name in partitions_wanted(plain.graph):
                for partition, entries in enumerate(plain.logs[name]):
                    entries.append(END)
                    engine.append(name, partition, [END])
            engine.rest()
            engine.trigger(numbers.choice(("aligned", "swift")))
            engine.rest()
            self.same((engine.mark, engine.committed()), (1000000, plain_meaning(plan_of(plain.graph), plain.logs)))
            self.same(engine.output(), engine.committed())

    def test_a_crash_at_every_moment(self):
        for seed in range(12):
            numbers, engine, plain = self.drawn(seed)
            engine.rest()
            whole = plain_meaning(plan_of(plain.graph), plain.logs)
            drawn = [numbers.randrange(1000) for _ in range(40)]
            for moment in range(len(drawn)):
                other, last = Engine(plain.graph, plain.logs, 2), 0
                for step, number in enumerate(drawn):
                    if step % 13 == 5 and (last == 0 or other.status(last) in ("lost", "committed")):
                        last = other.trigger("aligned" if number % 2 else "swift")
                    if step == moment:
                        other.crash()
                        other.restore()
                    other.run([number])
                    self.same(other.committed(), up_to(whole, other.mark))
                other.rest()
                self.same((other.output(), other.states(), other.late, other.task_marks()),
                          (engine.output(), engine.states(), engine.late, engine.task_marks()))


if __name__ == "__main__":
    unittest.main()
