"""The names and arguments of the interface, each defined in the file under which it is listed."""

import importlib
import inspect
import unittest
from pathlib import Path

import anychain
from anychain.road import Road

INTERFACE = {
    "books": "check_book(signs, book)",
    "chains": "steps_of(book, word) apply_step(book, word, step) run_chain(book, word, chain) outcomes(book, word) "
              "settled_outcomes(book, word) longest_chain(book, word) ring(book)",
    "nets": "check_net(net) reads(net, word)",
    "machines": "check_machine(machine) takes(machine, word) least_machine(net)",
    "finding": "common_word(first, second) only_first(first, second) words_of(machine, length) "
               "count_words(machine, length) is_finite(machine)",
    "translators": "check_translator(translator) translate(translator, word) taken_words(translator) "
                   "written_words(translator)",
    "valued": "check_writing_net(net) two_values(net) value_of(net, word)",
    "closing": "is_closed(net, book) closed_net(net, book)",
    "arrivals": "clash(translator) arriving(coder, book) origin(coder, book, letter) "
                "bad_arrival(coder, book, machine) never_paper(coder, book, machine) "
                "judge_never(coder, book, machine, paper) cost(coder, book) chain_between(book, first, last)",
    "back": "reads_back(coder, book, reader) spoiled(coder, book, reader) back_paper(coder, book, reader) "
            "judge_back(coder, book, reader, paper)",
    "confusing": "confusion(coder, book) best_reading(coder, book, letter)",
    "comparing": "first_lack(first, second) same_book(first, second) spare_rules(book) slim_book(book)",
    "relaysets": "least_harmful(coder, book, reader) greatest_harmless(coder, book, reader) cut_sets(sets)",
    "seals": "check_seal_table(signs, table) final_form(table, word) reduction(table, word) split(table) "
             "overlaps(table) broken_seal(table, book)",
    "finest": "is_zigzag(book, words) is_finest(table, book, links) zigzag(table, links, first, second)",
    "forany": "unfirm_rules(reader, book) changed_letter(reader, book)",
    "running": "once(book, relay, word) sweep(book, relay, word) while_any(book, relay, word)",
    "bounds": "part_machine(machine) least_missing(machine, chosen) safe_bound(coder, book, chosen)",
    "mailsigns": "signs_of(text) text_of(word) is_letter(word) content_text(content) content_signs(text)",
    "heads": "write_letter(fields, body) read_letter(text) unfold_text(text) fold_text(text, width) head_lines(text)",
    "parts": "write_parts(tree) read_parts(lines) fresh_bound(lines)",
    "ready": "ready_relay(name) ready_book(names) ready_seal(name) relay_names() seal_names()",
    "coders": "ready_coder(name) ready_reader(name) coder_names()",
    "notation": "book_text(book) chain_text(chain) read_book(text) read_chain(text)",
    "road": "Road(coder, reader)",
}

ROAD = "book(self) add_relay(self, relay) drop_relay(self, index) undo(self) verdict(self) trace(self, letter) " \
       "blame(self)"


class Interface(unittest.TestCase):
    def test_names_and_arguments(self):
        for file, listed in INTERFACE.items():
            module = importlib.import_module("anychain." + file)
            for entry in listed.replace(") ", ")\n").split("\n"):
                name = entry.partition("(")[0]
                function = getattr(module, name)
                self.assertEqual(function.__module__, "anychain." + file, name)
                self.assertEqual(name + str(inspect.signature(function)), entry)

    def test_methods_of_the_road(self):
        for entry in ROAD.replace(") ", ")\n").split("\n"):
            name = entry.partition("(")[0]
            self.assertIn(name, vars(Road), "defined in the class itself")
            self.assertEqual(name + str(inspect.signature(vars(Road)[name])), entry)

    def test_each_function_stands_in_a_listed_file(self):
        files = {path.stem for path in Path(anychain.__file__).parent.glob("*.py")}
        self.assertLessEqual(set(INTERFACE) | {"errors", "__init__"}, files)


if __name__ == "__main__":
    unittest.main()
