"""What can still be printed from blocks as they stand, and the fewest new ones [20]."""

from lostblock.boards import within
from lostblock.chains import states_ahead
from lostblock.matching import most_pairs, short_of_givers

REST = "rest"
STATE = "state"
FRESH = "fresh"


def givers_for(rests, states, number):
    of_rests = [(REST, place) for place, rest in enumerate(rests) if within(states[number], rest)]
    return of_rests + [(STATE, earlier) for earlier in states_ahead(states, number)]


def with_fresh(many, giver_of):
    told = []
    fresh = 0
    for number in range(many):
        if number in giver_of:
            told.append(giver_of[number])
        else:
            told.append((FRESH, fresh))
            fresh = fresh + 1
    return told


def sources(rests, states):
    many = len(states)
    wishes = dict([(number, givers_for(rests, states, number)) for number in range(many)])
    giver_of = most_pairs(wishes)
    short = short_of_givers(wishes, giver_of)
    return (with_fresh(many, giver_of), many - len(giver_of), short[0], short[1])
