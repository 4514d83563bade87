"""[20] What can come from blocks as they stand, and [0.2] and [0.4] as far as they touch it."""

import itertools
import unittest

from lostblock.chains import fewest_blocks
from lostblock.rests import sources
from samples import Draw


def lies_within(one, other):
    return one | other == other


def givers_of(rests, states, number):
    told = [("rest", place) for place, rest in enumerate(rests) if lies_within(states[number], rest)]
    return told + [("state", earlier) for earlier in range(number) if lies_within(states[number], states[earlier])]


def fewest_by_trial(rests, states):
    """The fewest new blocks, of all ways to cut each state out of wood that stands or of a new block."""
    ways = {tuple(sorted(rests)): 0}
    for state in states:
        longer = {}
        for woods, fresh in ways.items():
            choices = [(woods + (state,), fresh + 1)]
            for place, wood in enumerate(woods):
                if lies_within(state, wood):
                    choices.append((woods[:place] + (state,) + woods[place + 1:], fresh))
            for then, many in choices:
                then = tuple(sorted(then))
                longer[then] = min(many, longer.get(then, many))
        ways = longer
    return min(ways.values())


class Sources(unittest.TestCase):
    def assert_told(self, rests, states, awaited=None):
        kept = (list(rests), list(states))
        told = sources(rests, states)
        self.assertEqual((rests, states), kept)
        self.assertIs(type(told), tuple)
        self.assertEqual(len(told), 4)
        self.assert_sources(rests, states, told[0], told[1])
        self.assert_short(rests, states, told[1], told[2], told[3])
        if awaited is not None:
            self.assertEqual(told[1], awaited, (rests, states))

    def assert_sources(self, rests, states, told, fresh):
        self.assertIs(type(told), list)
        self.assertIs(type(fresh), int)
        self.assertEqual(len(told), len(states))
        self.assertEqual([source for source in told if source[0] == "fresh"], [("fresh", k) for k in range(fresh)])
        self.assertEqual(len(set(told)), len(told))
        for number, source in enumerate(told):
            self.assertIs(type(source), tuple)
            if source[0] != "fresh":
                self.assertIn(source, givers_of(rests, states, number))

    def assert_short(self, rests, states, fresh, numbers, names):
        self.assertIs(type(numbers), list)
        self.assertIs(type(names), list)
        self.assertEqual(numbers, sorted(set(numbers)))
        self.assertTrue(all(number in range(len(states)) for number in numbers))
        givers = {giver for number in numbers for giver in givers_of(rests, states, number)}
        self.assertEqual(names, sorted(givers))
        self.assertEqual(len(numbers) - len(names), fresh)

    def test_no_rests_and_no_states(self):
        self.assertEqual(sources([], []), ([], 0, [], []))
        self.assert_told([5, 7], [], 0)
        self.assertEqual(sources([], [5]), ([("fresh", 0)], 1, [0], []))

    def test_from_a_rest(self):
        self.assertEqual(sources([7], [5])[:2], ([("rest", 0)], 0))
        self.assertEqual(sources([1, 4, 7], [5])[:2], ([("rest", 2)], 0))
        self.assert_told([1], [5], 1)
        self.assert_told([5], [5], 0)

    def test_from_a_state_ahead(self):
        self.assertEqual(sources([], [7, 5])[:2], ([("fresh", 0), ("state", 0)], 1))
        self.assertEqual(sources([7], [7, 5, 1])[1], 0)
        self.assert_told([], [5, 7], 2)

    def test_fresh_ones_are_numbered_as_they_come(self):
        self.assertEqual(sources([], [1, 2, 4])[0], [("fresh", 0), ("fresh", 1), ("fresh", 2)])
        self.assertEqual(sources([2], [1, 2, 4])[0], [("fresh", 0), ("rest", 0), ("fresh", 1)])

    def test_one_rest_for_two_states(self):
        self.assert_told([7], [1, 2], 1)
        self.assert_told([7, 7], [1, 2], 0)
        self.assert_told([7], [3, 1, 2], 1)
        self.assert_told([7, 3], [4, 1, 2], 1)

    def test_a_wise_choice_of_rests(self):
        self.assert_told([7, 1], [1, 6], 0)
        self.assert_told([1, 7], [1, 6], 0)
        self.assert_told([15, 3, 1], [1, 2, 12], 0)

    def test_states_without_cells_and_alike_ones(self):
        self.assert_told([], [0], 1)
        self.assert_told([0], [0], 0)
        self.assert_told([0], [0, 0, 0], 0)
        self.assert_told([], [0, 0], 1)
        self.assert_told([0, 0], [1, 1], 1)
        self.assert_told([1], [1, 1, 0, 0], 0)

    def test_every_small_list(self):
        for many in range(4):
            for rests in itertools.combinations_with_replacement(range(4), many):
                for states in itertools.product(range(4), repeat=3):
                    self.assert_told(list(rests), list(states), fewest_by_trial(rests, states))

    def test_drawn_lists_against_a_trial_of_all_ways(self):
        draw = Draw(25)
        for time in range(200):
            size = (1 + draw.below(4), 1)
            rests = [draw.cells(size) for number in range(draw.below(5))]
            states = [draw.cells(size) for number in range(draw.below(7))]
            self.assert_told(rests, states, fewest_by_trial(rests, states))

    def test_without_rests_as_many_as_the_fewest_blocks(self):
        draw = Draw(26)
        for time in range(100):
            size = draw.size(3)
            states = [draw.cells(size) for number in range(draw.below(20))]
            self.assert_told([], states, len(fewest_blocks(states)[0]))

    def test_up_to_sixty_of_both(self):
        draw = Draw(27)
        for size in ((2, 2), (3, 2), (3, 3), (4, 4), (24, 24)):
            for many in (0, 20, 60):
                rests = [draw.cells(size) for number in range(many)]
                states = [draw.cells(size) for number in range(60)]
                self.assert_told(rests, states)
                self.assert_told(states, rests)
        whole = 2 ** 576 - 1
        self.assert_told([whole] * 60, [draw.cells((24, 24)) for number in range(60)], 0)

    def test_numbers_are_sorted_as_numbers(self):
        states = [2 ** number for number in range(13)]
        self.assert_told([2 ** 12 - 1] * 12, states, 1)
        self.assert_told([2 ** 13 - 1] * 11, states, 2)
        self.assertEqual(sources([2 ** 13 - 1] * 11, states)[3], [("rest", number) for number in range(11)])

    def test_lists_are_new_at_each_time(self):
        kept = sources([7], [5, 3, 1])
        told = sources([7], [5, 3, 1])
        self.assertEqual(told, kept)
        for part in (told[0], told[2], told[3]):
            part.append(None)
        self.assertEqual(sources([7], [5, 3, 1]), kept)


if __name__ == "__main__":
    unittest.main()
