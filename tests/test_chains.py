"""[13] The fewest blocks, and [0.2] and [0.4] as far as they touch them."""

import itertools
import unittest

from lostblock.chains import fewest_blocks
from samples import Draw


def lies_within(one, other):
    return one | other == other


def fewest_by_trial(states):
    """The fewest chains, of all ways to put each state behind a chain's last one or into a chain of its own."""
    ways = {()}
    for state in states:
        longer = set()
        for lasts in ways:
            longer.add(tuple(sorted(lasts + (state,))))
            for place, last in enumerate(lasts):
                if lies_within(state, last):
                    longer.add(tuple(sorted(lasts[:place] + (state,) + lasts[place + 1:])))
        ways = longer
    return min(len(lasts) for lasts in ways)


class FewestBlocks(unittest.TestCase):
    def assert_told(self, states, awaited=None):
        kept = list(states)
        told = fewest_blocks(states)
        self.assertEqual(states, kept)
        self.assertIs(type(told), tuple)
        self.assertEqual(len(told), 2)
        chains, apart = told
        self.assert_chains(states, chains)
        self.assert_apart(states, apart)
        self.assertEqual(len(apart), len(chains))
        if awaited is not None:
            self.assertEqual(len(chains), awaited, states)

    def assert_chains(self, states, chains):
        self.assertIs(type(chains), list)
        self.assertEqual(sorted(number for chain in chains for number in chain), list(range(len(states))))
        self.assertEqual([chain[0] for chain in chains], sorted(chain[0] for chain in chains))
        for chain in chains:
            self.assertIs(type(chain), list)
            for earlier, later in zip(chain, chain[1:]):
                self.assertLess(earlier, later)
                self.assertTrue(lies_within(states[later], states[earlier]))

    def assert_apart(self, states, apart):
        self.assertIs(type(apart), list)
        self.assertEqual(apart, sorted(set(apart)))
        for earlier, later in itertools.combinations(apart, 2):
            self.assertFalse(lies_within(states[later], states[earlier]))
        for number in apart:
            self.assertIn(number, range(len(states)))

    def test_no_state(self):
        self.assertEqual(fewest_blocks([]), ([], []))

    def test_one_state(self):
        for state in (0, 1, 7, 2 ** 576 - 1):
            self.assertEqual(fewest_blocks([state]), ([[0]], [0]))

    def test_alike_states(self):
        for many in (2, 3, 60):
            self.assert_told([5] * many, 1)
            self.assertEqual(fewest_blocks([5] * many)[0], [list(range(many))])

    def test_states_without_cells(self):
        self.assert_told([0, 0, 0], 1)
        self.assert_told([0, 1], 2)
        self.assert_told([1, 0], 1)
        self.assert_told([0, 1, 0, 2, 0], 3)

    def test_each_within_the_one_ahead(self):
        for many in (2, 8, 60):
            self.assert_told([2 ** (many - number) - 1 for number in range(many)], 1)

    def test_each_within_the_one_behind(self):
        for many in (2, 8, 60):
            self.assert_told([2 ** number - 1 for number in range(many)], many)

    def test_none_within_another_one(self):
        for many in (2, 8, 60):
            self.assert_told([2 ** number for number in range(many)], many)

    def test_a_chain_may_not_take_the_nearest(self):
        self.assert_told([3, 7, 3, 4], 2)
        self.assert_told([7, 3, 6, 2, 1], 2)
        self.assert_told([15, 7, 14, 6, 3, 8, 2], 3)
        self.assert_told([31, 3, 28, 1, 12, 2, 16, 4], 4)

    def test_every_list_of_up_to_five_sets_of_two_cells(self):
        for many in range(1, 6):
            for states in itertools.product(range(4), repeat=many):
                self.assert_told(list(states), fewest_by_trial(states))

    def test_every_list_of_three_sets_of_three_cells(self):
        for states in itertools.product(range(8), repeat=3):
            self.assert_told(list(states), fewest_by_trial(states))

    def test_drawn_lists_against_a_trial_of_all_ways(self):
        draw = Draw(15)
        for time in range(150):
            size = (1 + draw.below(4), 1)
            states = [draw.cells(size) for number in range(6 + draw.below(3))]
            self.assert_told(states, fewest_by_trial(states))

    def test_up_to_sixty_states(self):
        draw = Draw(16)
        for many in (20, 40, 59, 60):
            for size in ((2, 2), (3, 2), (3, 3), (4, 4), (24, 24)):
                self.assert_told([draw.cells(size) for number in range(many)])

    def test_sixty_states_that_lose_wood_along_many_blocks(self):
        draw = Draw(17)
        for many in (1, 2, 7, 30):
            woods = [2 ** 576 - 1] * many
            states = []
            for number in range(60):
                block = draw.below(many)
                woods[block] = woods[block] & (draw.below(2 ** 576) | draw.below(2 ** 576) | draw.below(2 ** 576))
                states.append(woods[block])
            self.assert_told(states)
            self.assertLessEqual(len(fewest_blocks(states)[0]), many)

    def test_lists_are_new_at_each_time(self):
        states = [7, 3, 4, 1]
        kept = fewest_blocks(states)
        told = fewest_blocks(states)
        self.assertEqual(told, kept)
        for chain in told[0]:
            chain.clear()
        told[0].clear()
        told[1].append(9)
        self.assertEqual(fewest_blocks(states), kept)


if __name__ == "__main__":
    unittest.main()
