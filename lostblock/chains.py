"""The fewest blocks that print a list of states [13]."""

from lostblock.boards import within
from lostblock.matching import most_pairs, short_of_givers


def states_ahead(states, number):
    return [earlier for earlier in range(number) if within(states[number], states[earlier])]


def chains_by(many, ahead_of):
    chains = []
    chain_of = {}
    for number in range(many):
        if number in ahead_of:
            chain_of[number] = chain_of[ahead_of[number]]
            chains[chain_of[number]].append(number)
        else:
            chain_of[number] = len(chains)
            chains.append([number])
    return chains


def fewest_blocks(states):
    wishes = dict([(number, states_ahead(states, number)) for number in range(len(states))])
    ahead_of = most_pairs(wishes)
    short = short_of_givers(wishes, ahead_of)
    # Whatever a state of short[0] can come from is in short[1]: of those outside it none comes from another.
    apart = [number for number in short[0] if number not in short[1]]
    return (chains_by(len(states), ahead_of), apart)
