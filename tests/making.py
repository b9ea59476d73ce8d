"""Random values, from a seed, for comparisons over many small cases."""


def word(rng, signs, low, high):
    return tuple(rng.randrange(signs) for _ in range(rng.randint(low, high)))


def book(rng, signs, relays, rules, longest=4):
    found = []
    for _ in range(rng.randint(0, relays)):
        relay = []
        for _ in range(rng.randint(0, rules)):
            left, right = word(rng, signs, 1, longest), word(rng, signs, 0, 1)
            if left != right:
                relay.append((left, right))
        found.append(tuple(relay))
    return tuple(found)


def net(rng, signs, states, moves, empty=True):
    found = {
        (rng.randrange(states), rng.randrange(-1 if empty else 0, signs), rng.randrange(states))
        for _ in range(moves)
    }
    ends = {rng.randrange(states) for _ in range(rng.randint(0, 2))}
    return (signs, states, tuple(sorted(ends)), tuple(sorted(found)))


def translator(rng, ins, outs, states, longest, nones):
    def told(value):
        return None if rng.random() < nones else value

    moves = tuple(
        tuple(told((word(rng, outs, 0, longest), rng.randrange(states))) for _ in range(ins)) for _ in range(states)
    )
    endings = tuple(told(word(rng, outs, 0, longest)) for _ in range(states))
    return (ins, outs, word(rng, outs, 0, longest), moves, endings)


def writing_net(rng, signs, outs, states, moves, longest):
    found = {
        (
            rng.randrange(states),
            rng.choice((-1, *range(signs), *range(signs))),
            word(rng, outs, 0, longest),
            rng.randrange(states),
        )
        for _ in range(moves)
    }
    ends = {(rng.randrange(states), word(rng, outs, 0, longest)) for _ in range(rng.randint(0, 2))}
    return (signs, states, tuple(sorted(ends)), tuple(sorted(found)))
