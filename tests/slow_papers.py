"""Plain, slow reckonings about closed nets, costs and papers. Nothing here uses the program."""

from tests import slow


def run(book, word, chain):
    """Run a chain step by step; return the last word."""
    assert type(chain) is tuple
    for step in chain:
        assert type(step) is tuple and len(step) == 3 and all(type(part) is int for part in step)
        relay, rule, place = step
        assert 0 <= relay < len(book) and 0 <= rule < len(book[relay]) and place >= 0
        left, right = book[relay][rule]
        assert word[place:place + len(left)] == left, "the step does not fit"
        word = word[:place] + right + word[place + len(left):]
    return word


def ends_of_paths(net, start, word):
    """The states to which a path from the start reads the word."""
    now = slow.spread(net, {start})
    for sign in word:
        now = slow.after_sign(net, now, sign)
    return now


def missing_moves(net, book):
    missing = set()
    for relay in book:
        for left, right in relay:
            for start in range(net[1]):
                for end in ends_of_paths(net, start, left):
                    move = (start, right[0] if right else -1, end)
                    if move not in net[3] and not (right == () and start == end):
                        missing.add(move)
    return missing


def closed(net, book):
    """Put moves in, one by one, until none is missing."""
    while True:
        missing = sorted(missing_moves(net, book))
        if not missing:
            return net
        net = (net[0], net[1], net[2], tuple(sorted(set(net[3]) | {missing[len(missing) // 2]})))


def costs(machine, book):
    """The cost of each move of the closed net: all rules and states are gone through until nothing changes."""
    states = range(max(1, len(machine[2])))
    best = {(p, sign, q): 1 for p, row in enumerate(machine[2]) for sign, q in enumerate(row) if q != -1}
    changed = True
    while changed:
        changed = False
        for relay in book:
            for left, right in relay:
                for start in states:
                    for end, many in cheapest_ends(best, start, left).items():
                        move = (start, right[0] if right else -1, end)
                        if not (right == () and start == end) and many < best.get(move, many + 1):
                            best[move] = many
                            changed = True
    return best


def cheapest_ends(best, start, word):
    def spread(costs):
        changed = True
        while changed:
            changed = False
            for (p, sign, q), many in best.items():
                if sign == -1 and p in costs and costs[p] + many < costs.get(q, costs[p] + many + 1):
                    costs[q] = costs[p] + many
                    changed = True
        return costs

    now = spread({start: 0})
    for read in word:
        after = {}
        for (p, sign, q), many in best.items():
            if sign == read and p in now:
                after[q] = min(after.get(q, now[p] + many), now[p] + many)
        now = spread(after)
    return now


# Papers

def is_word(value, signs):
    return type(value) is tuple and all(slow.whole(sign, 0, signs - 1) for sign in value)


def reads_every_sent_letter(net, coder):
    """Contents and the net go on together, with all states that the net may be in."""
    _, _, prefix, moves, endings = coder

    def on(states, word):
        for sign in word:
            states = slow.after_sign(net, states, sign)
        return states

    start = (0, on(slow.spread(net, {0}), prefix))
    seen = {start}
    queue = [start]
    while queue:
        state, states = queue.pop()
        if endings[state] is not None and not on(states, endings[state]) & set(net[2]):
            return False
        for move in moves[state]:
            if move is not None:
                place = (move[1], on(states, move[0]))
                if place not in seen:
                    seen.add(place)
                    queue.append(place)
    return True


def reads_a_word_of(net, machine):
    if not machine[2]:
        return False
    seen = {(0, 0)}
    queue = [(0, 0)]
    while queue:
        state, at = queue.pop()
        if state in net[2] and at in machine[1]:
            return True
        for p, sign, q in net[3]:
            after = at if sign == -1 else machine[2][at][sign]
            if p == state and after != -1 and (q, after) not in seen:
                seen.add((q, after))
                queue.append((q, after))
    return False


def is_good_net(net, coder, book):
    return slow.is_net(net) and net[0] == coder[1] and not missing_moves(net, book) \
        and reads_every_sent_letter(net, coder)


def is_never_paper(coder, book, machine, paper):
    return is_good_net(paper, coder, book) and not reads_a_word_of(paper, machine)


def extend(lead, first, second):
    one, other = list(lead[0] + first), list(lead[1] + second)
    while one and other and one[0] == other[0]:
        del one[0], other[0]
    return None if one and other else (tuple(one), tuple(other))


def go(reader, state, word):
    """The state behind a word and what is written, or None if the reader is dead."""
    written = ()
    for sign in word:
        move = reader[3][state][sign]
        if move is None:
            return None
        written += move[0]
        state = move[1]
    return state, written


def is_lead(value, signs):
    return type(value) is tuple and len(value) == 2 and all(is_word(word, signs) for word in value) and () in value


def is_table(value, numbers, signs):
    if type(value) is not tuple:
        return False
    for entry in value:
        if type(entry) is not tuple or len(entry) != len(numbers) + 1 or not is_lead(entry[-1], signs):
            return False
        if not all(slow.whole(state, 0, many - 1) for state, many in zip(entry, numbers)):
            return False
    keys = [entry[:-1] for entry in value]
    return keys == sorted(set(keys))


def is_back_paper(coder, book, reader, paper):
    """Each condition of point 21, one after the other."""
    if type(paper) is not tuple or len(paper) != 3:
        return False
    pairs, net, rows = paper
    if not is_table(pairs, (len(coder[3]), len(reader[3])), coder[0]):
        return False
    if not are_pairs({entry[:2]: entry[2] for entry in pairs}, coder, reader):
        return False
    if not is_good_net(net, coder, book):
        return False
    if not is_table(rows, (net[1], len(reader[3]), len(reader[3])), coder[0]):
        return False
    return are_rows({entry[:3]: entry[3] for entry in rows}, net, book, reader)


def are_pairs(leads, coder, reader):
    _, _, prefix, moves, endings = coder
    useful = {state for state, ending in enumerate(endings) if ending is not None}
    for _ in moves:
        useful |= {s for s, row in enumerate(moves) if any(m is not None and m[1] in useful for m in row)}
    if 0 in useful:
        behind = go(reader, 0, prefix)
        if behind is None or leads.get((0, behind[0])) != extend(((), ()), (), reader[2] + behind[1]):
            return False
    for (state, at), lead in leads.items():
        for sign, move in enumerate(moves[state]):
            if move is not None and move[1] in useful:
                behind = go(reader, at, move[0])
                if behind is None:
                    return False
                longer = extend(lead, (sign,), behind[1])
                if longer is None or leads.get((move[1], behind[0])) != longer:
                    return False
        if endings[state] is not None:
            behind = go(reader, at, endings[state])
            if behind is None or reader[4][behind[0]] is None:
                return False
            if extend(lead, (), behind[1] + reader[4][behind[0]]) != ((), ()):
                return False
    return True


def are_rows(leads, net, book, reader):
    reached = {(0, 0)}
    while True:
        more = set(reached)
        for p, sign, q in net[3]:
            for state, at in reached:
                behind = go(reader, at, () if sign == -1 else (sign,))
                if p == state and behind is not None:
                    more.add((q, behind[0]))
        if more == reached:
            break
        reached = more
    for state, at in reached:
        for left, right in (rule for relay in book for rule in relay):
            for end in ends_of_paths(net, state, left):
                one, other = go(reader, at, left), go(reader, at, right)
                if one is None or other is None:
                    return False
                lead = extend(((), ()), one[1], other[1])
                if lead is None or leads.get((end, one[0], other[0])) != lead:
                    return False
    for (state, first, second), lead in leads.items():
        for p, sign, q in net[3]:
            if p == state:
                word = () if sign == -1 else (sign,)
                one, other = go(reader, first, word), go(reader, second, word)
                if one is None or other is None:
                    return False
                longer = extend(lead, one[1], other[1])
                if longer is None or leads.get((q, one[0], other[0])) != longer:
                    return False
        if state in net[2]:
            endings = (reader[4][first], reader[4][second])
            if None in endings or extend(lead, *endings) != ((), ()):
                return False
    return True
