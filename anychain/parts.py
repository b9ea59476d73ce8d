"""Parts within parts: trees of lines, and how they are written with bounds."""

from anychain.errors import BadLetter, TooLong

LINE_SIGNS = "abAB-=.>#? \t"
BOUND_SIGNS = "ab"
DEEPEST = 12


def write_parts(tree):
    """Return the written form of a tree; raise BadLetter if it is none, and TooLong if it is only too deep."""
    if depth_of(tree) > DEEPEST:
        raise TooLong("the tree has a depth of more than 12")
    return tuple(written(tree))


def depth_of(tree):
    """Return the depth of a tree, however deep it is; raise BadLetter if it is no tree but for its depth."""
    deepest = 0
    # A tree may be deeper than calls can be.
    queue = [(tree, 0)]
    while queue:
        part, nodes = queue.pop()
        if type(part) is list:
            deepest = max(deepest, nodes + 1)
            queue.extend([(inner, nodes + 1) for inner in part])
        elif type(part) is not tuple or not all([is_line(line) for line in part]):
            raise BadLetter("a part of the tree is neither a leaf nor a node", 0)
    return deepest


def is_line(value):
    """Tell whether a value is a line of a leaf."""
    return type(value) is str and all([sign in LINE_SIGNS for sign in value])


def written(tree):
    """Return the lines of the written form of a tree as a list."""
    if type(tree) is tuple:
        return [">"] + list(tree)
    parts = [written(part) for part in tree]
    bound = fresh_bound([line for part in parts for line in part])
    lines = ["=" + bound]
    for part in parts:
        lines.append("--" + bound)
        lines.extend(part)
    return lines + ["--" + bound + "--"]


def fresh_bound(lines):
    """Return the least bound for which no line begins with two hyphens and the bound."""
    rests = [line[2:] for line in lines if line.startswith("--")]
    # All bounds of one length, in order. Each line rules out at most one of them, so
    # there are soon more bounds than lines.
    bounds = list(BOUND_SIGNS)
    size = 1
    while True:
        taken = {rest[:size]: True for rest in rests}
        for bound in bounds:
            if bound not in taken:
                return bound
        bounds = [bound + sign for bound in bounds for sign in BOUND_SIGNS]
        size += 1


def read_parts(lines):
    """Return the tree whose written form, with any bounds, some lines are; raise BadLetter if there is none."""
    return tree_of(list(lines), DEEPEST)


def tree_of(lines, depth):
    """Return the tree of at most a depth whose written form some lines are."""
    if not lines:
        raise BadLetter("a part has no lines", 0)
    first = lines[0]
    if first == ">":
        if not all([is_line(line) for line in lines]):
            raise BadLetter("a line of a leaf has another sign", 0)
        return tuple(lines[1:])
    if depth == 0 or not is_bound_line(first):
        raise BadLetter("a part begins neither as a leaf nor as a node", 0)
    return [tree_of(part, depth - 1) for part in parts_of(lines[1:], "--" + first[1:])]


def is_bound_line(line):
    """Tell whether a line is the first one of a node."""
    bound = line[1:]
    return line[:1] == "=" and bound != "" and all([sign in BOUND_SIGNS for sign in bound])


def parts_of(lines, border):
    """Return the lines of each part of a node, between its borders."""
    end = border + "--"
    if not lines or lines[-1] != end:
        raise BadLetter("a node does not end", 0)
    parts = []
    for line in lines[:-1]:
        if line == end:
            raise BadLetter("a node ends before its last line", 0)
        if line == border:
            parts.append([])
        elif parts:
            parts[-1].append(line)
        else:
            raise BadLetter("a node does not begin with a border", 0)
    return parts
