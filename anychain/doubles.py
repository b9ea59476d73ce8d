"""Moves of a closed net that are made of two different words.

If no two sent letters lead to one letter, every move is made of one word only. A way to
make a move is a pair (path, rule): the path reads the left side of the rule, a pair
(relay, rule), and the move is for the right side; or rule is None, and the path is the
move itself or, for an empty move from a state to itself, no move at all.
"""

from anychain.lefts import targets_of
from anychain.ways import way_on, ways_to_ends


def two_ways(making):
    """Return (state, state, way, way): both ways lead from the one to the other, made of different words.

    Return None if each move is made of one word only.
    """
    words = {}
    # An item stands behind those of which it is made.
    for item, way in making.item_ways.items():
        words[item] = () if way is None else made_word(making, words, way[0], way[1], item[2])
        found = two_ways_by_rules(making, words, item)
        if found is not None:
            return found
    targets = targets_of(making.costs)
    onward = ways_to_left_ends(making, targets)
    for item in words:
        found = two_ways_by_moves(making, words, targets, onward, item)
        if found is not None:
            return found
    return None


def made_word(making, words, item, sign, target):
    """Return the word of an item and of a move behind it, each made in the cheapest way."""
    return words[item] + move_word(making, words, (item[2], sign, target))


def move_word(making, words, move):
    """Return the word that a move is made of in the cheapest way."""
    way = making.ways[move]
    return (move[1],) if way is None else words[way[2]]


def two_ways_by_rules(making, words, item):
    """Return what two_ways does, if the path of an item makes a move of another word than it is made of."""
    start, node, state = item
    for relay, rule, right in making.rules[node]:
        move = (start, right, state)
        if move not in making.costs:
            # This is an empty move from a state to itself: it is also made of nothing.
            return (start, state, (making.path_of(item), (relay, rule)), ([], None))
        if move_word(making, words, move) != words[item]:
            return (start, state, (making.path_of(item), (relay, rule)), ([move], None))
    return None


def ways_to_left_ends(making, targets):
    """Return for each (node, state) from which the rest of a left side is read the first step to its end."""
    steps = {}
    for _, node, state in making.item_ways:
        if (node, state) not in steps:
            found = []
            for sign, after in making.children[node].items():
                for target in targets.get((state, sign), ()):
                    found.append(((state, sign, target), (), (), (after, target)))
            steps[(node, state)] = found
    return ways_to_ends(steps, [place for place in steps if making.rules[place[0]]])


def two_ways_by_moves(making, words, targets, onward, item):
    """Return what two_ways does, if a move behind an item makes another one of another word than it is made of."""
    start, node, state = item
    for sign, after in making.children[node].items():
        for target in targets.get((state, sign), ()):
            behind = (start, after, target)
            # Where no left side is read to its end, no move is made.
            if (after, target) in onward and words[behind] != made_word(making, words, item, sign, target):
                rest = way_on(onward, (after, target))
                end = rest[-1][3] if rest else (after, target)
                moves = [step[0] for step in rest]
                relay, rule, _ = making.rules[end[0]][0]
                first = (making.path_of(behind) + moves, (relay, rule))
                second = (making.path_of(item) + [(state, sign, target)] + moves, (relay, rule))
                return (start, end[1], first, second)
    return None
