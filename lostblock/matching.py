"""Askers and givers in pairs, each in one pair at most, and what shows that there can't be more pairs.

Wishes are a dict that has for each asker the list of the givers that will do for it.
"""


def walked(wishes, asker_of, starts):
    # From askers to givers that will do, from givers to the askers they are paired with, up to a giver that is free.
    askers = list(starts)
    came_by = {}
    place = 0
    while place < len(askers):
        asker = askers[place]
        for giver in wishes[asker]:
            if giver in came_by:
                continue
            came_by[giver] = asker
            if giver not in asker_of:
                return (giver, askers, came_by)
            askers.append(asker_of[giver])
        place = place + 1
    return (None, askers, came_by)


def pair_anew(giver_of, asker_of, came_by, free):
    # Back along the way: each asker takes the giver ahead of it and leaves its own to the asker behind it.
    giver = free
    while giver is not None:
        asker = came_by[giver]
        left = giver_of.get(asker)
        giver_of[asker] = giver
        asker_of[giver] = asker
        giver = left


def most_pairs(wishes):
    giver_of = {}
    asker_of = {}
    for asker in wishes:
        way = walked(wishes, asker_of, [asker])
        pair_anew(giver_of, asker_of, way[2], way[0])
    return giver_of


def short_of_givers(wishes, giver_of):
    # The askers that a walk from those without a giver comes to: all the givers that will do for any of them are
    # paired with one of them, so they are fewer by just the askers without one.
    asker_of = dict([(giver, asker) for asker, giver in giver_of.items()])
    way = walked(wishes, asker_of, [asker for asker in wishes if asker not in giver_of])
    return (sorted(way[1]), sorted(way[2]))
