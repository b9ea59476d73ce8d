"""Plain, slow reckonings to compare the program with. Nothing here uses the program."""

from itertools import product


def whole(value, low, high):
    return isinstance(value, int) and not isinstance(value, bool) and low <= value <= high


def all_words(signs, length):
    """All words of at most a length, in ascending order."""
    return [word for size in range(length + 1) for word in product(range(signs), repeat=size)]


def order(word):
    return (len(word), word)


# Books and chains

def is_book(signs, book):
    def word(value, low, high):
        return type(value) is tuple and low <= len(value) <= high and all(whole(s, 0, signs - 1) for s in value)

    if not whole(signs, 1, 30) or type(book) is not tuple or len(book) > 8:
        return False
    for relay in book:
        if type(relay) is not tuple or len(relay) > 8:
            return False
        for rule in relay:
            if type(rule) is not tuple or len(rule) != 2:
                return False
            if not word(rule[0], 1, 4) or not word(rule[1], 0, 1) or rule[0] == rule[1]:
                return False
    return True


def steps(book, word):
    """All triples of numbers within reason are tried."""
    found = []
    for relay in range(len(book)):
        for rule in range(len(book[relay])):
            left = list(book[relay][rule][0])
            for place in range(len(word) + 1):
                if list(word)[place:place + len(left)] == left:
                    found.append((relay, rule, place))
    return found


def behind(book, word, step):
    left, right = book[step[0]][step[1]]
    signs = list(word)
    signs[step[2]:step[2] + len(left)] = right
    return tuple(signs)


def outcomes(book, word):
    """The set of all words that can come of a word."""
    found = {word}
    fresh = {word}
    while fresh:
        fresh = {behind(book, old, step) for old in fresh for step in steps(book, old)} - found
        found |= fresh
    return found


def longest(book, word, on_way=()):
    """The greatest number of steps, or None; every chain is gone through."""
    if word in on_way:
        return None
    best = 0
    for after in {behind(book, word, step) for step in steps(book, word)}:
        more = longest(book, after, on_way + (word,))
        if more is None:
            return None
        best = max(best, more + 1)
    return best


def has_ring(book):
    """Tell whether some sign comes back to itself, by joining pairs as long as there are new ones."""
    pairs = {(left[0], right[0]) for relay in book for left, right in relay if len(left) == len(right) == 1}
    while True:
        more = pairs | {(a, d) for a, b in pairs for c, d in pairs if b == c}
        if more == pairs:
            return any(a == b for a, b in pairs)
        pairs = more


# Nets and machines

def is_net(net):
    if type(net) is not tuple or len(net) != 4:
        return False
    signs, states, ends, moves = net
    if not whole(signs, 1, 30) or not whole(states, 1, 100000):
        return False
    if type(ends) is not tuple or not all(whole(end, 0, states - 1) for end in ends):
        return False
    if type(moves) is not tuple:
        return False
    for move in moves:
        if type(move) is not tuple or len(move) != 3 or not whole(move[1], -1, signs - 1):
            return False
        if not whole(move[0], 0, states - 1) or not whole(move[2], 0, states - 1):
            return False
    return list(ends) == sorted(set(ends)) and list(moves) == sorted(set(moves))


def spread(net, states):
    """The states that empty moves reach."""
    found = set(states)
    while True:
        more = found | {target for state, sign, target in net[3] if sign == -1 and state in found}
        if more == found:
            return frozenset(found)
        found = more


def after_sign(net, states, sign):
    return spread(net, {target for state, read, target in net[3] if read == sign and state in states})


def reads(net, word):
    now = spread(net, {0})
    for sign in word:
        now = after_sign(net, now, sign)
    return bool(now & set(net[2]))


def state_behind(machine, state, word):
    for sign in word:
        if state == -1:
            break
        state = machine[2][state][sign]
    return state


def takes(machine, word):
    return state_behind(machine, 0 if machine[2] else -1, word) in machine[1]


def same_words(machine, net):
    """Tell exactly whether a machine takes the words that a net reads, by going through both together."""
    start = (0 if machine[2] else -1, spread(net, {0}))
    seen = {start}
    queue = [start]
    while queue:
        state, states = queue.pop()
        if (state in machine[1]) != bool(states & set(net[2])):
            return False
        for sign in range(net[0]):
            target = machine[2][state][sign] if state != -1 else -1
            pair = (target, after_sign(net, states, sign))
            if pair not in seen:
                seen.add(pair)
                queue.append(pair)
    return True


def has_machine_shape(machine):
    if type(machine) is not tuple or len(machine) != 3:
        return False
    signs, ends, rows = machine
    if not whole(signs, 1, 30) or type(ends) is not tuple or type(rows) is not tuple:
        return False
    for row in rows:
        if type(row) is not tuple or len(row) != signs or not all(whole(t, -1, len(rows) - 1) for t in row):
            return False
    return all(whole(end, 0, len(rows) - 1) for end in ends) and list(ends) == sorted(set(ends))


def is_machine(machine):
    """The least form is asked state by state, pair by pair and word by word."""
    if not has_machine_shape(machine):
        return False
    signs, ends, rows = machine
    states = range(len(rows))
    least = {0: ()} if rows else {}
    level = dict(least)
    while level:
        after = {}
        for state, word in sorted(level.items(), key=lambda item: item[1]):
            for sign in range(signs):
                target = rows[state][sign]
                if target != -1 and target not in least and target not in after:
                    after[target] = word + (sign,)
        least.update(after)
        level = after
    if sorted(least, key=lambda state: order(least[state])) != list(states):
        return False
    alive = set(ends)
    for _ in states:
        alive |= {state for state in states if alive & set(rows[state])}
    if alive != set(states):
        return False
    apart = {(a, b) for a in (-1, *states) for b in (-1, *states) if (a in ends) != (b in ends)}
    moves = [list(row) for row in rows] + [[-1] * signs]
    for _ in states:
        apart |= {
            (a, b) for a in (-1, *states) for b in (-1, *states)
            if any((moves[a][sign], moves[b][sign]) in apart for sign in range(signs))
        }
    return all((a, b) in apart for a in states for b in states if a != b)


# Translators

def is_translator(value):
    if type(value) is not tuple or len(value) != 5:
        return False
    ins, outs, prefix, moves, endings = value
    if not whole(ins, 1, 30) or not whole(outs, 1, 30):
        return False

    def word(written):
        return type(written) is tuple and len(written) <= 6 and all(whole(s, 0, outs - 1) for s in written)

    if not word(prefix) or type(moves) is not tuple or not 1 <= len(moves) <= 12:
        return False
    if type(endings) is not tuple or len(endings) != len(moves):
        return False
    for row in moves:
        if type(row) is not tuple or len(row) != ins:
            return False
        for move in row:
            if move is not None and (type(move) is not tuple or len(move) != 2):
                return False
            if move is not None and not (word(move[0]) and whole(move[1], 0, len(moves) - 1)):
                return False
    return all(ending is None or word(ending) for ending in endings)


def rest_written(translator, state, word):
    """What is written from a state on, or None."""
    _, _, _, moves, endings = translator
    if not word:
        return endings[state]
    move = moves[state][word[0]]
    if move is None:
        return None
    rest = rest_written(translator, move[1], word[1:])
    return None if rest is None else move[0] + rest


def translate(translator, word):
    rest = rest_written(translator, 0, word)
    return None if rest is None else translator[2] + rest


def is_translation(translator, word):
    """Tell exactly whether some word is translated to this one."""
    _, _, prefix, moves, endings = translator
    if word[:len(prefix)] != prefix:
        return False
    seen = {(0, len(prefix))}
    queue = list(seen)
    while queue:
        state, at = queue.pop()
        if endings[state] is not None and word[at:] == endings[state]:
            return True
        for move in moves[state]:
            if move is not None and word[at:at + len(move[0])] == move[0]:
                place = (move[1], at + len(move[0]))
                if place not in seen:
                    seen.add(place)
                    queue.append(place)
    return False


# Writing nets

def is_writing_net(net):
    if type(net) is not tuple or len(net) != 4:
        return False
    signs, states, ends, moves = net
    if not whole(signs, 1, 30) or not whole(states, 1, 100000):
        return False

    def written(value):
        return type(value) is tuple and all(whole(s, 0, 10 ** 40) for s in value)

    if type(ends) is not tuple or type(moves) is not tuple:
        return False
    for end in ends:
        if type(end) is not tuple or len(end) != 2 or not whole(end[0], 0, states - 1) or not written(end[1]):
            return False
    for move in moves:
        if type(move) is not tuple or len(move) != 4 or not whole(move[1], -1, signs - 1):
            return False
        if not whole(move[0], 0, states - 1) or not whole(move[3], 0, states - 1) or not written(move[2]):
            return False
    return list(ends) == sorted(set(ends)) and list(moves) == sorted(set(moves))


def values(net, most_moves):
    """A dict from words to the set of their values, by all paths of at most so many moves."""
    _, _, ends, moves = net
    found = {}
    paths = {(0, (), ())}
    for _ in range(most_moves + 1):
        for state, word, written in paths:
            for end, last in ends:
                if end == state:
                    found.setdefault(word, set()).add(written + last)
        paths = {
            (target, word + ((sign,) if sign >= 0 else ()), written + more)
            for state, word, written in paths
            for source, sign, more, target in moves
            if source == state
        }
    return found


def has_value(net, word, value):
    """Tell exactly whether a word has a value."""
    _, _, ends, moves = net
    seen = {(0, 0, 0)}
    queue = list(seen)
    while queue:
        state, read, done = queue.pop()
        if read == len(word) and any(end == state and value[done:] == last for end, last in ends):
            return True
        for source, sign, written, target in moves:
            if source != state or value[done:done + len(written)] != written:
                continue
            if sign != -1 and (read == len(word) or word[read] != sign):
                continue
            place = (target, read + (sign != -1), done + len(written))
            if place not in seen:
                seen.add(place)
                queue.append(place)
    return False
