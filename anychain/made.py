"""The moves that close a net under a book, and what they are made of.

An item is a triple (state, node, state): a path from the one state to the other reads
the beginning of a left side that the node of the tree of left sides stands for.
"""

from heapq import heappop, heappush

from anychain.lefts import left_tree
from anychain.nets import EMPTY

# States are kept in blocks of 1024, each as the bits of an integer.
BLOCK = 10
LAST = 1023


class Making:
    """All moves of a closed net, each made of own moves of the net in a cheapest way.

    A path costs as much as its moves together, a made move as much as the path that it
    stands for. Moves and items are found in the order of their costs, so the first way
    in which one is found is a cheapest one; and it is made only of what was found before.
    """

    def __init__(self, own_moves, book, own_cost):
        self.children, self.rules = left_tree(book)
        # The cost of each move, and None or how it is made: (relay, rule, item).
        self.costs = {}
        self.ways = {}
        # For each item the last step of its path, (item before, sign), or None if it has no moves.
        self.item_ways = {}
        # For each (state, sign) what is found there: items that wait for such a move, as
        # (item, cost, node behind it), and moves, as (cost, blocks of next states).
        self.holders = {}
        self.targets = {}
        self.fresh = {}
        # For each (state, node, number of a block) the block of the items that are found.
        self.found = {}
        # For each cost the same of items that wait, and a list of (key, block, way).
        self.waiting = {own_cost: {}}
        self.lists = {own_cost: []}
        self.queue = [own_cost]
        for state in {move[0]: True for move in own_moves}:
            self.add_item((state, 0, state), 0, None)
        for move in own_moves:
            self.add_move(move, own_cost, None)
        while self.queue:
            self.run_level(heappop(self.queue))

    def run_level(self, cost):
        """Find all items and moves of a cost."""
        level = self.lists[cost]
        at = 0
        while at < len(level) or self.fresh:
            while at < len(level):
                key, block, way = level[at]
                at += 1
                new = without(block, self.found.get(key, 0))
                states = states_of(key[2], new)
                for state in states:
                    self.add_item((key[0], key[1], state), cost, way)
            self.spread(cost)
        del self.lists[cost]
        del self.waiting[cost]

    def add_item(self, item, cost, way):
        """Keep an item that is new."""
        self.item_ways[item] = way
        start, node, state = item
        key = (start, node, state >> BLOCK)
        self.found[key] = self.found.get(key, 0) | 1 << (state & LAST)
        for sign, after in self.children[node].items():
            self.holders.setdefault((state, sign), []).append((item, cost, after))
            for more, blocks in self.targets.get((state, sign), ()):
                self.put(item, after, sign, blocks, cost + more)
        for relay, rule, right in self.rules[node]:
            # An empty move from a state to itself is not needed.
            if right != EMPTY or start != state:
                self.add_move((start, right, state), cost, (relay, rule, item))

    def add_move(self, move, cost, way):
        """Keep a move, if it is new."""
        if move not in self.costs:
            self.costs[move] = cost
            self.ways[move] = way
            self.fresh.setdefault((move[0], move[1]), []).append(move[2])

    def spread(self, cost):
        """Let all items that wait for the moves found last go on by them."""
        fresh = self.fresh
        self.fresh = {}
        for (state, sign), states in fresh.items():
            blocks = blocks_of(states)
            self.targets.setdefault((state, sign), []).append((cost, blocks))
            for item, before, after in self.holders.get((state, sign), ()):
                self.put(item, after, sign, blocks, before + cost)

    def put(self, before, after, sign, blocks, cost):
        """Let the items behind another one wait for their turn, but for those that are found."""
        for number, block in blocks:
            key = (before[0], after, number)
            new = without(block, self.found.get(key, 0))
            if new:
                if cost not in self.waiting:
                    self.waiting[cost] = {}
                    self.lists[cost] = []
                    heappush(self.queue, cost)
                known = self.waiting[cost].get(key, 0)
                new = without(new, known)
                if new:
                    self.waiting[cost][key] = known | new
                    self.lists[cost].append((key, new, (before, sign)))

    def path_of(self, item):
        """Return the moves of the path that an item stands for."""
        path = []
        while self.item_ways[item] is not None:
            before, sign = self.item_ways[item]
            path.append((before[2], sign, item[2]))
            item = before
        return path[::-1]

    def unfolded(self, path, place):
        """Return the word that a path is made of, and a chain from it to the word that the path reads.

        The word begins at a place of some letter, and the chain is for this letter.
        """
        word = []
        chain = []
        tasks = placed(path, place)[::-1]
        while tasks:
            move, step, here = tasks.pop()
            if step is not None:
                chain.append(step)
            elif self.ways[move] is None:
                word.append(move[1])
            else:
                relay, rule, item = self.ways[move]
                tasks.append((None, (relay, rule, here), here))
                tasks.extend(placed(self.path_of(item), here)[::-1])
        return tuple(word), tuple(chain)


def placed(path, place):
    """Return for each move of a path a task: the move, no step, and the place of what it reads."""
    tasks = []
    for move in path:
        tasks.append((move, None, place))
        if move[1] != EMPTY:
            place += 1
    return tasks


def without(first, second):
    """Return the bits of the first block that the second one has not."""
    return first ^ (first & second)


def blocks_of(states):
    """Return pairs (number of a block, block) for some states."""
    blocks = {}
    for state in states:
        blocks[state >> BLOCK] = blocks.get(state >> BLOCK, 0) | 1 << (state & LAST)
    return list(blocks.items())


def states_of(number, block):
    """Return the states of a block."""
    states = []
    while block:
        lowest = block & -block
        states.append((number << BLOCK) + lowest.bit_length() - 1)
        block = block ^ lowest
    return states
