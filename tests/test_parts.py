"""Points 41 and 42: parts within parts."""

import random
import re
import unittest
from itertools import product

from anychain.errors import BadLetter, TooLong
from anychain.parts import fresh_bound, read_parts, write_parts
from tests.helpers import ODD_VALUES, Case, ask
from tests.test_mailsigns import ODD_CHARACTERS, texts

SIGNS = "abAB-=.>#? \t"


def least_bound(lines):
    """All bounds are tried, one after another."""
    size = 0
    while True:
        size += 1
        for letters in product("ab", repeat=size):
            bound = "".join(letters)
            if not any(line.startswith("--" + bound) for line in lines):
                return bound


def is_line(value):
    return type(value) is str and set(value) <= set(SIGNS)


def depth(value):
    """The depth of a value that is a tree but for its depth, and None for any other one."""
    if type(value) is tuple:
        return 0 if all(is_line(line) for line in value) else None
    if type(value) is not list:
        return None
    depths = [depth(part) for part in value]
    return None if None in depths else 1 + max(depths, default=0)


def written(tree, bounds):
    """The written form, with a function that tells the bound for the lines of a node's trees."""
    if type(tree) is tuple:
        return (">",) + tree
    parts = [written(part, bounds) for part in tree]
    bound = bounds(sum(parts, ()))
    lines = ("=" + bound,)
    for part in parts:
        lines += ("--" + bound,) + part
    return lines + ("--" + bound + "--",)


def deep(tree, nodes):
    for _ in range(nodes):
        tree = [tree]
    return tree


def some_tree(rng, depth_left, lines):
    if depth_left == 0 or rng.random() < 0.4:
        return tuple(rng.choice(lines) for _ in range(rng.randint(0, 3)))
    return [some_tree(rng, depth_left - 1, lines) for _ in range(rng.randint(0, 3))]


LINES = (
    "", "a", "--", "--a", "--b", "--aa", "--ab", "--ba", "--bb", "--a--", "--b--", "--ab--", "=a", "=", ">", "---",
    "-a", "--aaa", "--abb", "--A", "--=", "-- a", " --a", "--.a", "-", "#?\t ",
)


class FreshBound(Case):
    def holds(self, lines):
        told = ask(fresh_bound, lines)
        self.assertEqual(told, least_bound(lines))
        self.assertEqual(ask(fresh_bound, list(lines)), told)
        return told

    def test_ordinary_lines(self):
        self.assertEqual(self.holds(()), "a")
        self.assertEqual(self.holds(("a", "-a", "=a", " --a", "--", "---a", "--A", "--.a")), "a")
        self.assertEqual(self.holds(("-aa", "-ba", "->b", "a-a", "a--b")), "a")
        self.assertEqual(self.holds(("--a",)), "b")
        self.assertEqual(self.holds(("--b", "--bbbb")), "a")
        self.assertEqual(self.holds(("--abab", "--b")), "aa")
        self.assertEqual(self.holds(("--b--", "--a#", "--aa", "--ab?")), "ba")

    def test_all_bounds_of_a_length(self):
        for size in (1, 2, 3, 5):
            lines = tuple("--" + "".join(letters) for letters in product("ab", repeat=size))
            self.assertEqual(self.holds(lines), "a" * (size + 1))
            for at in range(len(lines)):
                self.assertEqual(self.holds(lines[:at] + lines[at + 1:]), lines[at][2:])
                self.assertEqual(self.holds(lines[:at] + (lines[at][:-1],) + lines[at + 1:]), lines[at][2:])

    def test_many_lines(self):
        rng = random.Random(4201)
        for _ in range(1000):
            self.holds(tuple(rng.choice(LINES) for _ in range(rng.randint(0, 12))))
            self.holds(tuple("--" + "".join(rng.choice("ab") for _ in range(rng.randint(0, 5))) for _ in range(40)))

    def test_long_lines(self):
        self.assertEqual(fresh_bound(("--" + "a" * 100000, "--" + "ba" * 50000)), "ab")
        lines = ["--" + format(number, "014b").replace("0", "a").replace("1", "b") for number in range(2 ** 14)]
        self.assertEqual(fresh_bound(lines), "a" * 15)


class WriteParts(Case):
    def holds(self, tree):
        many = depth(tree)
        if many is None:
            self.bad_at(None, write_parts, tree)
        elif many > 12:
            self.raises(TooLong, write_parts, tree)
        else:
            told = ask(write_parts, tree)
            self.assertIs(type(told), tuple)
            self.assertEqual(told, written(tree, least_bound))
            self.assertEqual(ask(read_parts, told), tree)
            self.assertEqual(ask(read_parts, list(told)), tree)
            return told
        return None

    def test_ordinary_trees(self):
        self.assertEqual(
            self.holds([("a",), [("--a",)]]),
            ("=aa", "--aa", ">", "a", "--aa", "=b", "--b", ">", "--a", "--b--", "--aa--"),
        )
        self.assertEqual(self.holds(("a", "", "b ")), (">", "a", "", "b "))
        self.assertEqual(self.holds([("--b",), ()]), ("=a", "--a", ">", "--b", "--a", ">", "--a--"))

    def test_leaves_without_lines_and_empty_nodes(self):
        self.assertEqual(self.holds(()), (">",))
        self.assertEqual(self.holds([]), ("=a", "--a--"))
        self.assertEqual(self.holds([()]), ("=a", "--a", ">", "--a--"))
        self.assertEqual(self.holds([[]]), ("=b", "--b", "=a", "--a--", "--b--"))
        self.assertEqual(self.holds([[], [], ()]), (
            "=b", "--b", "=a", "--a--", "--b", "=a", "--a--", "--b", ">", "--b--",
        ))

    def test_lines_that_look_like_bounds(self):
        for line in LINES:
            self.holds((line,))
            self.holds([(line,)])
            self.holds([[(line, line)], (line,)])
        for lines in product(LINES[:14], repeat=2):
            self.holds([lines, [lines[:1], [lines[1:]]]])

    def test_no_line_of_the_trees_is_a_line_of_the_bound(self):
        rng = random.Random(4202)
        for _ in range(300):
            tree = [some_tree(rng, 3, LINES) for _ in range(rng.randint(0, 3))]
            lines = self.holds(tree)
            border = "--" + lines[0][1:]
            self.assertEqual(lines.count(border), len(tree))
            self.assertEqual(lines.count(border + "--"), 1)
            self.assertEqual(lines[-1], border + "--")
            self.assertEqual(len([line for line in lines if line.startswith(border)]), len(tree) + 1)

    def test_characters(self):
        for line in texts(SIGNS, 2):
            self.holds((line,))
        for character in ODD_CHARACTERS + ":\r\n":
            for line in (character, "a" + character, character + "-", "a" + character + "a"):
                self.assertIsNone(self.holds((line,)))
                self.assertIsNone(self.holds([("a",), [("b", line), ()]]))

    def test_depths(self):
        for leaf in ((), ("--a",), ("a", "b")):
            for nodes in range(16):
                self.assertIs(self.holds(deep(leaf, nodes)) is None, nodes > 12)
                self.assertIs(self.holds(deep([leaf, leaf], nodes)) is None, nodes > 11)
        for nodes in range(16):
            self.assertIs(self.holds(deep([], nodes)) is None, nodes > 11)
            self.assertIs(self.holds([("a",), deep([], nodes), ()]) is None, nodes > 10)

    def test_too_deep_and_wrong(self):
        for wrong in (None, ("a", None), ("c",), 0, "a", ((),)):
            self.assertIsNone(self.holds(deep(wrong, 13)))
            self.raises(BadLetter, write_parts, [deep((), 20), wrong])
            self.raises(BadLetter, write_parts, [wrong, deep((), 20)])
        for nodes in (13, 900, 20000):
            tree = deep(("a",), nodes)
            with self.assertRaises(TooLong):
                write_parts(tree)
            with self.assertRaises(BadLetter):
                write_parts([deep(("a",), nodes), deep((":",), nodes)])

    def test_any_value(self):
        strange = ODD_VALUES + (
            "--a", ("a", ["b"]), (("a",),), [None], ["a"], [["a"], ()], [("a", 0)], [((),)], {"a": ()}, frozenset("a"),
            range(2), (b"a",), [b"a"], ("a", True), [True], [1, 2], WriteParts, (None,), ("a", None, "b"), [[], [None]],
        )
        for value in strange:
            self.holds(value)
            self.holds([value])
            self.holds([("a",), value, [("b",), [value, ()]]])
            self.holds((value,))
            self.holds([(), ("a", value)])
        self.assertEqual(self.holds([[0], []]), None)

    def test_lists_are_new(self):
        lines = write_parts([[], [("a",)]])
        one, other = read_parts(lines), read_parts(lines)
        one[1].append(("b",))
        one.append([])
        self.assertEqual(other, [[], [("a",)]])
        self.assertEqual(read_parts(lines), other)

    def test_many_trees(self):
        rng = random.Random(4203)
        for _ in range(700):
            self.holds(some_tree(rng, rng.randint(0, 5), LINES if rng.random() < 0.5 else ("a", "--a", "--b")))

    def test_large_trees(self):
        tree = [("a", "--ab") * 2000] * 10
        lines = write_parts(deep(tree, 11))
        self.assertEqual(read_parts(lines), deep(tree, 11))


def all_forms(lines, many):
    """All written forms of at most so many lines, each of them from a list of lines, with their trees."""
    forms = {0: {}}
    for size in range(1, many + 1):
        forms[size] = {(">",) + rest: rest for rest in product(lines, repeat=size - 1)}
        for bound in {line[1:] for line in lines if line[0] == "=" and line != "="}:
            # The beginnings of nodes, by their numbers of lines.
            begun = {1: {("=" + bound,): []}}
            for end in range(2, size):
                begun[end] = {
                    head + ("--" + bound,) + part: trees + [forms[inner][part]]
                    for inner in range(1, end - 1) for head, trees in begun.get(end - inner - 1, {}).items()
                    for part in forms[inner] if not {"--" + bound, "--" + bound + "--"} & set(part)
                }
            for head, trees in begun.get(size - 1, {}).items():
                forms[size][head + ("--" + bound + "--",)] = trees
    return {form: tree for found in forms.values() for form, tree in found.items()}


def slow_read(lines):
    """The tree of some lines, or None; its depth is not looked at."""
    if lines[:1] == (">",):
        return lines[1:] if all(is_line(line) for line in lines) else None
    if not lines or not re.fullmatch("=[ab]+", lines[0]):
        return None
    border = "--" + lines[0][1:]
    borders = [at for at, line in enumerate(lines) if line in (border, border + "--")]
    if borders[:1] != [1] or borders[-1] != len(lines) - 1:
        return None
    if [lines[at] for at in borders] != [border] * (len(borders) - 1) + [border + "--"]:
        return None
    parts = [slow_read(lines[low + 1:high]) for low, high in zip(borders, borders[1:])]
    return None if None in parts else parts


class ReadParts(Case):
    def test_all_short_lines(self):
        for lines, many in (
            ((">", "=a", "--a", "--a--"), 8),
            ((">", "=a", "--a", "--a--", "=b", "--b", "--b--"), 6),
            ((">", "=ab", "--ab", "--ab--", "--a", "--abb", "=", "--", "----"), 5),
        ):
            forms = all_forms(lines, many)
            found = 0
            for size in range(many + 1):
                for asked in product(lines, repeat=size):
                    try:
                        told = read_parts(asked)
                    except BadLetter:
                        told = None
                    if asked in forms:
                        found += 1
                        self.assertEqual(told, forms[asked], asked)
                    else:
                        self.assertIsNone(told, asked)
            self.assertGreater(found, 4 ** (many - 1))

    def test_other_bounds(self):
        tree = [("a", "--a"), [("--b",), []], ()]
        for bounds in (
            lambda lines: "bab", lambda lines: "b" * 40, lambda lines: "a" * (2 + len(lines)), least_bound,
            lambda lines: least_bound(lines) + "b" * len(lines),
        ):
            lines = written(tree, bounds)
            # The same bound within itself is none of what point 41 allows.
            if bounds([]) == bounds(["a"] * 50) and len({line for line in lines if line[:1] == "="}) == 1:
                self.bad_at(None, read_parts, lines)
            else:
                self.assertEqual(ask(read_parts, lines), tree)
        self.assertEqual(ask(read_parts, ("=b", "--b", ">", "--ba", "--bb--", "--b--")), [("--ba", "--bb--")])
        self.assertEqual(ask(read_parts, ("=bb", "--bb", ">", "--b", "--b--", "--bb--")), [("--b", "--b--")])

    def test_bounds_beside_each_other(self):
        self.assertEqual(
            ask(read_parts, ("=a", "--a", "=b", "--b--", "--a", "=b", "--b", ">", "--b--", "--a--")), [[], [()]]
        )

    def test_lines_that_are_no_tree(self):
        for lines in (
            (), ("",), ("a",), ("=",), ("=a",), ("=a", "--a"), ("=a", "--b--"), ("=a", "--a--", ""),
            ("=a", "--a", "--a--"), ("=a", "--a", ">", "--a--", ">"), ("=a", "", "--a--"), ("=a", ">", "--a--"),
            ("=a ", "--a --"), ("= a", "-- a--"), ("=A", "--A--"), ("=", "----"), ("=c", "--c--"), ("==", "--=--"),
            (" >",), ("> ",), (">>",), ("=a", "--a--", "--a--"), ("=a", "--a", "a", "--a--"), ("a=",),
            ("=a", "--a", "=a", "--a--", "--a--"), ("=a", "--a", ">", "--a"),
            ("=a", "--a", "=b", "--a--"), ("=a", "--a", "=b", "--b", "--b--", "--a--"), ("=a", "--a", "=b", "--b--"),
        ):
            self.bad_at(None, read_parts, lines)
            self.bad_at(None, read_parts, list(lines))

    def test_characters(self):
        for character in ODD_CHARACTERS + ":\r\n":
            for line in (character, "a" + character, character + "a"):
                self.bad_at(None, read_parts, (">", line))
                self.bad_at(None, read_parts, ("=a", "--a", ">", "a", line, "--a--"))
                self.bad_at(None, read_parts, ("=" + line, "--" + line + "--"))
                self.bad_at(None, read_parts, (line,))

    def test_depths(self):
        for leaf in ((), ("a",)):
            for nodes in (11, 12):
                # A new bound for each node, a longer one outside of a shorter one.
                lines = written(deep(leaf, nodes), lambda inner: "a" * (len(inner) + 1))
                self.assertEqual(ask(read_parts, lines), deep(leaf, nodes))
            for nodes in (13, 14, 300):
                self.bad_at(None, read_parts, written(deep(leaf, nodes), lambda inner: "b" * (len(inner) + 1)))
        self.assertEqual(ask(read_parts, written(deep([], 11), lambda inner: "a" * (len(inner) + 1))), deep([], 11))
        self.bad_at(None, read_parts, written(deep([], 12), lambda inner: "a" * (len(inner) + 1)))

    def test_one_line_put_in_left_out_or_changed(self):
        lines = write_parts([("a",), [("--a",), []]])
        accepted = 0
        for at in range(len(lines) + 1):
            for line in LINES + ("=aa", "--aa--", "=b", "=bb", "c"):
                before, behind = lines[:at], lines[at + 1:]
                for near in (before + (line,) + lines[at:], before + (line,) + behind, before + behind):
                    expected = slow_read(near)
                    if expected is None:
                        self.bad_at(None, read_parts, near)
                    else:
                        accepted += 1
                        self.assertEqual(ask(read_parts, near), expected)
        self.assertGreater(accepted, 50)

    def test_many_lines(self):
        rng = random.Random(4204)
        accepted = 0
        for _ in range(2000):
            bounds = rng.sample(("a", "b", "ab", "ba", "bbb", "aab", "abab"), 7)
            lines = written(some_tree(rng, 3, LINES), lambda inner: bounds.pop() if bounds else "aaaaaa")
            expected = slow_read(lines)
            if expected is None:
                self.bad_at(None, read_parts, lines)
            else:
                accepted += 1
                self.assertEqual(ask(read_parts, lines), expected)
        self.assertGreater(accepted, 500)


if __name__ == "__main__":
    unittest.main()
