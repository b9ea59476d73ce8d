"""Moves of a closed net that are made of two different words."""


def two_ways(making):
    """Return (state, state, way, way), or None if no path makes a move of another word than it is made of.

    Both ways lead from the one state to the other, and are made of different words. A way
    is a pair (path, rule): the path reads the left side of the rule, a pair (relay, rule),
    or rule is None, and the path is the move that the rule of the other way makes. For an
    empty move from a state to itself that path has no moves.
    """
    words = {}
    # An item stands behind those of which it is made.
    for item, way in making.item_ways.items():
        words[item] = () if way is None else words[way[0]] + move_word(making, words, (way[0][2], way[1], item[2]))
        start, node, state = item
        for relay, rule, right in making.rules[node]:
            move = (start, right, state)
            # An empty move from a state to itself does not stand in the net: it is made of nothing.
            known = move in making.costs
            if not known or move_word(making, words, move) != words[item]:
                path = making.path_of(item)
                return (start, state, (path, (relay, rule)), ([move] if known else [], None))
    return None


def move_word(making, words, move):
    """Return the word that a move is made of in the cheapest way."""
    way = making.ways[move]
    return (move[1],) if way is None else words[way[2]]
