"""The names and arguments of the interface, each defined in the file under which it is listed."""

import importlib
import inspect
import unittest

INTERFACE = {
    "books": "check_book(signs, book)",
    "chains": "steps_of(book, word) apply_step(book, word, step) run_chain(book, word, chain) outcomes(book, word) "
              "settled_outcomes(book, word) longest_chain(book, word) ring(book)",
    "nets": "check_net(net) reads(net, word)",
    "machines": "check_machine(machine) takes(machine, word) least_machine(net)",
    "finding": "common_word(first, second) only_first(first, second) words_of(machine, length) "
               "count_words(machine, length) is_finite(machine)",
    "translators": "check_translator(translator) translate(translator, word) taken_words(translator) "
                   "written_words(translator)",
    "valued": "check_writing_net(net) two_values(net) value_of(net, word)",
    "closing": "is_closed(net, book) closed_net(net, book)",
    "arrivals": "clash(translator) arriving(coder, book) origin(coder, book, letter) "
                "bad_arrival(coder, book, machine) never_paper(coder, book, machine) "
                "judge_never(coder, book, machine, paper) cost(coder, book) chain_between(book, first, last)",
    "back": "reads_back(coder, book, reader) spoiled(coder, book, reader) back_paper(coder, book, reader) "
            "judge_back(coder, book, reader, paper)",
    "confusing": "confusion(coder, book) best_reading(coder, book, letter)",
    "comparing": "first_lack(first, second) same_book(first, second) spare_rules(book) slim_book(book)",
    "relaysets": "least_harmful(coder, book, reader) greatest_harmless(coder, book, reader) cut_sets(sets)",
    "seals": "check_seal_table(signs, table) final_form(table, word) reduction(table, word) split(table) "
             "overlaps(table) broken_seal(table, book)",
    "finest": "is_zigzag(book, words) is_finest(table, book, links) zigzag(table, links, first, second)",
    "forany": "unfirm_rules(reader, book) changed_letter(reader, book)",
}


class Interface(unittest.TestCase):
    def test_names_and_arguments(self):
        for file, listed in INTERFACE.items():
            module = importlib.import_module("anychain." + file)
            for entry in listed.replace(") ", ")\n").split("\n"):
                name = entry.partition("(")[0]
                function = getattr(module, name)
                self.assertEqual(function.__module__, "anychain." + file, name)
                self.assertEqual(name + str(inspect.signature(function)), entry)


if __name__ == "__main__":
    unittest.main()
