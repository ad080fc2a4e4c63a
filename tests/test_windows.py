"""Point 27: the windows in which times lie."""

import unittest

from tests.plain_operators import plain_windows
from tests.support import ExactCase, generator_of_numbers
from tideweir.operators.windows import windows_of


class Windows(ExactCase):
    def gives(self, window, times, wanted):
        self.same(windows_of(window, times), wanted)

    def test_no_times(self):
        for window in (("tumble", 5), ("hop", 6, 2), ("session", 3)):
            self.gives(window, [], [])

    def test_tumble(self):
        self.gives(("tumble", 5), [0], [(0, 5)])
        self.gives(("tumble", 5), [4], [(0, 5)])
        self.gives(("tumble", 5), [5], [(5, 10)])
        self.gives(("tumble", 5), [0, 4, 5, 17, 19, 20], [(0, 5), (5, 10), (15, 20), (20, 25)])
        self.gives(("tumble", 1), [0, 3, 3], [(0, 1), (3, 4)])
        self.gives(("tumble", 5000), [4999, 5000, 899999], [(0, 5000), (5000, 10000), (895000, 900000)])
        self.gives(("tumble", 7), [900000], [(899997, 900004)])

    def test_hop(self):
        self.gives(("hop", 10, 5), [12], [(5, 15), (10, 20)])
        self.gives(("hop", 10, 5), [10], [(5, 15), (10, 20)])
        self.gives(("hop", 10, 5), [14], [(5, 15), (10, 20)])
        self.gives(("hop", 10, 5), [15], [(10, 20), (15, 25)])
        self.gives(("hop", 10, 4), [12], [(4, 14), (8, 18), (12, 22)])
        self.gives(("hop", 10, 4), [14], [(8, 18), (12, 22)])
        self.gives(("hop", 10, 4), [12, 30], [(4, 14), (8, 18), (12, 22), (24, 34), (28, 38)])
        self.gives(("hop", 10, 5), [11, 16], [(5, 15), (10, 20), (15, 25)])

    def test_a_hop_with_a_slide_of_its_size_is_a_tumble(self):
        for times in ([0], [4, 5], [899999, 900000]):
            self.gives(("hop", 5, 5), times, windows_of(("tumble", 5), times))

    def test_a_hop_of_twenty_slides(self):
        self.gives(("hop", 20, 1), [100], [(begin, begin + 20) for begin in range(81, 101)])
        self.gives(("hop", 5000, 250), [5000], [(begin, begin + 5000) for begin in range(250, 5001, 250)])

    def test_windows_that_begin_below_0(self):
        self.gives(("hop", 10, 5), [0], [(-5, 5), (0, 10)])
        self.gives(("hop", 10, 4), [0], [(-8, 2), (-4, 6), (0, 10)])
        self.gives(("hop", 10, 4), [1], [(-8, 2), (-4, 6), (0, 10)])
        self.gives(("hop", 10, 4), [2], [(-4, 6), (0, 10)])
        self.gives(("hop", 3, 2), [0], [(-2, 1), (0, 3)])
        self.gives(("hop", 3, 2), [1], [(0, 3)])
        self.gives(("hop", 3, 1), [0], [(-2, 1), (-1, 2), (0, 3)])

    def test_sessions(self):
        self.gives(("session", 3), [5], [(5, 8)])
        self.gives(("session", 3), [5, 7], [(5, 10)])
        self.gives(("session", 3), [5, 8], [(5, 8), (8, 11)])
        self.gives(("session", 3), [5, 9], [(5, 8), (9, 12)])
        self.gives(("session", 3), [0, 2, 4, 6, 20, 22], [(0, 9), (20, 25)])
        self.gives(("session", 1), [3, 3, 4], [(3, 4), (4, 5)])
        self.gives(("session", 2), [3, 3, 4, 4, 6], [(3, 6), (6, 8)])
        self.gives(("session", 5000), [0, 4999, 9999, 900000], [(0, 9999), (9999, 14999), (900000, 905000)])

    def test_times_that_stand_there_several_times(self):
        self.gives(("tumble", 5), [1, 1, 2, 2, 9], [(0, 5), (5, 10)])
        self.gives(("hop", 4, 2), [2, 2], [(0, 4), (2, 6)])
        self.gives(("session", 2), [2, 2], [(2, 4)])

    def test_they_are_all_windows_in_which_a_time_lies(self):
        numbers = generator_of_numbers(53)
        for _ in range(200):
            slide = numbers.randint(1, 7)
            window = numbers.choice((("tumble", numbers.randint(1, 12)), ("session", numbers.randint(1, 6)),
                                     ("hop", numbers.randint(slide, 20 * slide), slide)))
            times = sorted(numbers.randint(0, 60) for _ in range(numbers.randint(0, 9)))
            self.gives(window, times, plain_windows(window, times))

    def test_arguments_are_left_alone(self):
        for window in (("tumble", 5), ("hop", 6, 2), ("session", 3)):
            self.leaves_alone(windows_of, window, [1, 2, 2, 9])


if __name__ == "__main__":
    unittest.main()
