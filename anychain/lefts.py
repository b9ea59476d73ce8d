"""Paths of a net that read the left sides of a book's rules.

The left sides stand together in a tree: node 0 is the empty word, `children` has for
each node a dict from signs to the nodes that are one sign longer, and `rules` has for
each node the rules (relay, rule, sign of the right side) whose left side it is.
"""

from anychain.nets import EMPTY


def left_tree(book):
    """Return the pair (children, rules) of a book's tree of left sides."""
    # Empty moves leave a node as it is.
    children = [{EMPTY: 0}]
    rules = [[]]
    for relay, relay_rules in enumerate(book):
        for rule, (left, right) in enumerate(relay_rules):
            node = 0
            for sign in left:
                if sign not in children[node]:
                    children[node][sign] = len(children)
                    children.append({EMPTY: len(children)})
                    rules.append([])
                node = children[node][sign]
            rules[node].append((relay, rule, right[0] if right else EMPTY))
    return children, rules


def targets_of(moves):
    """Return a dict from pairs (state, sign) to the next states of these moves."""
    found = {}
    for state, sign, target in moves:
        found.setdefault((state, sign), []).append(target)
    return found


def left_ends(tree, targets, start):
    """Return quadruples (relay, rule, right sign, state): paths for the left side lead to the state."""
    children, rules = tree
    rows = {0: {start: True}}
    queue = [(0, start)]
    while queue:
        node, state = queue.pop()
        for sign, after in children[node].items():
            row = rows.setdefault(after, {})
            fresh = [target for target in targets.get((state, sign), ()) if target not in row]
            for target in fresh:
                row[target] = True
                queue.append((after, target))
    return [rule + (state,) for node, row in rows.items() for rule in rules[node] for state in row]
