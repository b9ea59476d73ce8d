"""Random values, from a seed, for comparisons over many small cases."""


def word(rng, signs, low, high):
    return tuple(rng.randrange(signs) for _ in range(rng.randint(low, high)))


def book(rng, signs, relays, rules, longest=4):
    found = []
    for _ in range(rng.randint(0, relays)):
        relay = []
        for _ in range(rng.randint(0, rules)):
            left, right = word(rng, signs, 1, longest), word(rng, signs, 0, 1)
            if left != right:
                relay.append((left, right))
        found.append(tuple(relay))
    return tuple(found)


def net(rng, signs, states, moves, empty=True):
    found = {
        (rng.randrange(states), rng.randrange(-1 if empty else 0, signs), rng.randrange(states))
        for _ in range(moves)
    }
    ends = {rng.randrange(states) for _ in range(rng.randint(0, 2))}
    return (signs, states, tuple(sorted(ends)), tuple(sorted(found)))


def translator(rng, ins, outs, states, longest, nones):
    def told(value):
        return None if rng.random() < nones else value

    moves = tuple(
        tuple(told((word(rng, outs, 0, longest), rng.randrange(states))) for _ in range(ins)) for _ in range(states)
    )
    endings = tuple(told(word(rng, outs, 0, longest)) for _ in range(states))
    return (ins, outs, word(rng, outs, 0, longest), moves, endings)


def writing_net(rng, signs, outs, states, moves, longest):
    found = {
        (
            rng.randrange(states),
            rng.choice((-1, *range(signs), *range(signs))),
            word(rng, outs, 0, longest),
            rng.randrange(states),
        )
        for _ in range(moves)
    }
    ends = {(rng.randrange(states), word(rng, outs, 0, longest)) for _ in range(rng.randint(0, 2))}
    return (signs, states, tuple(sorted(ends)), tuple(sorted(found)))


# Coders and readers that fit together: letters are over 0, 1 and 2, and the reader passes over each 2.

CODES = (((0,), (1,)), ((0, 1), (1, 0)), ((0,), (1, 0), (1, 1)), ((0, 0, 1), (0, 1)), ((1,),), ((0, 0),))


def noisy(word, rng):
    """The word with a 2 here and there."""
    found = ()
    for sign in word:
        found += (2,) * (rng.randrange(3) // 2) + (sign,)
    return found + (2,) * (rng.randrange(3) // 2)


def noisy_coder(rng, code):
    states = rng.randint(1, 2)
    moves = tuple(
        tuple((noisy(word, rng), rng.randrange(states)) for word in code) for _ in range(states)
    )
    endings = tuple(rng.choice(((), (2,), ())) for _ in range(states))
    return (len(code), 3, rng.choice(((), (2,), (2, 2))), moves, endings)


def patient_reader(code):
    """It reads code words sign by sign, and writes a content sign where its word ends."""
    places = [()] + sorted({word[:size] for word in code for size in range(1, len(word))})
    moves = []
    for place in places:
        row = []
        for sign in (0, 1):
            word = place + (sign,)
            if word in code:
                row.append(((code.index(word),), 0))
            else:
                row.append(((), places.index(word)) if word in places else None)
        moves.append((row[0], row[1], ((), len(moves))))
    return (3, len(code), (), tuple(moves), ((),) + (None,) * (len(places) - 1))


def late_reader(code):
    """A reader for code words of one sign each that writes a content sign only one sign later."""
    held = (None,) + code
    moves = []
    for place in held:
        written = () if place is None else (code.index(place),)
        moves.append(tuple(
            (written, held.index((sign,))) if (sign,) in code else (written, 0) if sign == 2 else None
            for sign in range(3)
        ))
    return (3, len(code), (), tuple(moves), ((),) + tuple((at,) for at in range(len(code))))


HARMLESS = (
    ((2,), ()), ((2, 2), (2,)), ((2, 2), ()), ((0, 2), (0,)), ((2, 0), (0,)), ((2, 1, 2), (1,)), ((2, 2, 0), (0,)),
    ((2, 2, 2), ()), ((1, 2), (1,)), ((2, 1), (1,)),
)


def noisy_book(rng, harm):
    """A book of rules that take a 2 away; with some chance it has other rules too."""
    found = []
    for _ in range(rng.randint(0, 3)):
        relay = [rng.choice(HARMLESS) for _ in range(rng.randint(0, 2))]
        if rng.random() < harm:
            left, right = word(rng, 3, 1, 3), word(rng, 3, 0, 1)
            relay += [(left, right)] if left != right else []
        found.append(tuple(relay))
    return tuple(found)


def codec(rng, harm):
    """A coder, a book and a reader that mostly fit together."""
    code = rng.choice(CODES)
    late = all(len(part) == 1 for part in code) and rng.random() < 0.7
    return noisy_coder(rng, code), noisy_book(rng, harm), late_reader(code) if late else patient_reader(code)


def seal_table(rng, signs, rules, longest):
    found = []
    for _ in range(rng.randint(0, rules)):
        left = word(rng, signs, 1, longest)
        if len(left) == 1 and left[0] > 0 and rng.random() < 0.6:
            found.append((left, (rng.randrange(left[0]),)))
        else:
            found.append((left, word(rng, signs, 0, len(left) - 1)))
    return tuple(found)
