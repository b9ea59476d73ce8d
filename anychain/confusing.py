"""Whether any reader at all could read every content back."""

from anychain.arrivals import check_cost, clash
from anychain.doubles import two_ways
from anychain.errors import Confused
from anychain.lefts import targets_of
from anychain.made import Making
from anychain.nets import EMPTY
from anychain.papers import all_words, common_path, path_to
from anychain.sent import check_coder_and_book, content_of, sent_net, word_machine
from anychain.valued import two_values


def confusion(coder, book):
    """Return two contents with chains from their sent letters to the same letter, or None if there are none.

    Raise TooLong if the cost is more than 60.
    """
    check_coder_and_book(coder, book)
    net = sent_net(coder)
    making = Making(net[3], book, 1)
    check_cost(making)
    return confusion_of(coder, net, making)


def confusion_of(coder, net, making):
    """Return what confusion does, with the net of the sent letters and what closes it."""
    pair = clash(coder)
    if pair is not None:
        return (pair[0], (), pair[1], ())
    # From here on different sent letters have different contents.
    sent = confused_letters(net, making)
    if sent is None:
        return None
    first, second = sent
    return (content_of(coder, first[0]), first[1], content_of(coder, second[0]), second[1])


def confused_letters(net, making):
    """Return two different sent letters, each with a chain to the same letter, or None.

    There are none exactly if each move of the closed net is made of one word only, and
    no letter is read on two paths that are made of different words.
    """
    found = two_ways(making)
    return sent_of_paths(net, making) if found is None else sent_of_ways(net, making, found)


def sent_of_ways(net, making, found):
    """Return two sent letters, each with a chain to the same letter, that have two ways within them."""
    start, state, first, second = found
    own = targets_of(net[3])
    begin = read_word(common_path(own, 0, [start], all_words(net[0])))
    end = read_word(common_path(own, state, net[2], all_words(net[0])))
    sent = []
    for path, rule in (first, second):
        word, chain = making.unfolded(path, len(begin))
        if rule is not None:
            chain = chain + (rule + (len(begin),),)
        sent.append((begin + word + end, chain))
    return sent


def read_word(path):
    """Return the word that a path reads."""
    return tuple([move[1] for move in path if move[1] != EMPTY])


def sent_of_paths(net, making):
    """Return two sent letters, each with a chain to the same letter, or None.

    In the closed net each move writes the word that it is made of. So the values of a
    letter are sent letters of which it can come.
    """
    signs, states, ends, _ = net
    moves = []
    for move in sorted(making.costs):
        word, _ = making.unfolded([move], 0)
        moves.append((move[0], move[1], word, move[2]))
    found = two_values((signs, states, tuple([(end, ()) for end in ends]), tuple(moves)))
    if found is None:
        return None
    letter, first, second = found
    paths = [path_writing(moves, ends, letter, word) for word in (first, second)]
    return [making.unfolded(path, 0) for path in paths]


def path_writing(moves, ends, letter, word):
    """Return the moves (state, sign, state) of a path of a writing net that reads a letter and writes a word."""
    behind = {}
    for state, sign, written, target in moves:
        behind.setdefault(state, []).append((sign, written, target))
    # A node tells the state, and how much of the letter is read and of the word is written.
    came = {(0, 0, 0): None}
    queue = [(0, 0, 0)]
    while queue:
        node = queue.pop()
        state, read, done = node
        if state in ends and read == len(letter) and done == len(word):
            return path_to(came, node)
        for sign, written, target in behind.get(state, ()):
            fits = sign == EMPTY or letter[read:read + 1] == (sign,)
            after = (target, read if sign == EMPTY else read + 1, done + len(written))
            if fits and word[done:done + len(written)] == written and after not in came:
                came[after] = (node, (state, sign, target))
                queue.append(after)
    return None


def best_reading(coder, book, letter):
    """Return the content to which a letter belongs, or None if it cannot arrive.

    Raise TooLong if the cost is more than 60, and else Confused if the book confuses the letters.
    """
    check_coder_and_book(coder, book)
    net = sent_net(coder)
    making = Making(net[3], book, 1)
    check_cost(making)
    if confusion_of(coder, net, making) is not None:
        raise Confused("two contents have sent letters of which the same letter can come")
    path = common_path(targets_of(making.costs), 0, net[2], word_machine(net[0], letter))
    if path is None:
        return None
    sent, _ = making.unfolded(path, 0)
    return content_of(coder, sent)
