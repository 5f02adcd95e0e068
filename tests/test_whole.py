import ast
import inspect
import unittest
from copy import deepcopy
from importlib import import_module
from pathlib import Path

from fourway.desk import Desk
from fourway.reading import net_by
from fourway.tables import crossings

README = Path(__file__).resolve().parent.parent / "README.md"

# The interface: each module with its functions and classes and what they are made or asked with.
INTERFACE = {
    "errors": ["RoundError()", "NoNet(at)", "NoText(at)", "NoWord(at)", "NoOne(many)", "NoLetter(letter)"],
    "nets": ["net_of(numbers)", "places_in(net)", "hangs_together(net)"],
    "texts": ["net_text(net)", "net_read(text)"],
    "words": ["word_told(text)", "letters_of(word)", "places_of(word, letter)"],
    "choices": ["joined(way, seat)", "all_choices(n)", "changed_at(choice, place, way)"],
    "rounds": ["round_of(net, choice, end)", "rounds_of(net, choice)", "many_rounds(net, choice)"],
    "reading": ["word_by(net, choice)", "net_by(word)", "place_order(word)", "choice_by(word, choice)"],
    "tables": ["is_table(thing)", "is_web(thing)", "crossings(word)", "part_at(table, numbers)", "product(one, other)",
               "sum_of_rows(table, numbers)"],
    "ranks": ["undoing(table)", "rest_of(table)", "paper_of(table)", "shows_rest(table, paper)"],
    "byrests": ["choice_table(word, choice)", "rounds_by_rest(word, choice)", "passed_once(word, choice)"],
    "changes": ["Change()", "Turn(letter)", "Swap(one, other)", "Mirror()", "Shift(by)", "done_all(word, changes)"],
    "pivots": ["pivoted(table, numbers)"],
    "turnings": ["turned_choice(net, choice, place)", "way_between(net, one, other)", "walked(net, choice, places)"],
    "undone": ["can_undo(table, numbers)", "sets_of(table)", "other_number(table, one, other, number)"],
    "counts": ["counts_of(net, order=None)", "table_counts(table)", "arrowed_counts(table)", "worth_at(counts, x)"],
    "least": ["least_writing(word)", "compared(one, other)"],
    "webs": ["turned_web(web, point)", "is_wheel(web, order)", "told_web(web)"],
    "desk": ["Desk()"],
}

NET = net_by("abcbac")
WEB = crossings("abcabdcd")
TABLE = [[1, 1, 0], [1, 0, 1], [0, 1, 0]]
WHEEL = [[0, 1, 1, 1, 1, 1], [1, 0, 1, 0, 0, 1], [1, 1, 0, 1, 0, 0], [1, 0, 1, 0, 1, 0], [1, 0, 0, 1, 0, 1],
         [1, 1, 0, 0, 1, 0]]

# One asking of each function.
ASKED = (
    ("nets", "net_of", NET), ("nets", "places_in", NET), ("nets", "hangs_together", NET),
    ("texts", "net_text", NET), ("texts", "net_read", "a0-a1 a2-a3"),
    ("words", "word_told", "abab"), ("words", "letters_of", "baba"), ("words", "places_of", "baba", "b"),
    ("choices", "joined", 1, 2), ("choices", "all_choices", 2), ("choices", "changed_at", [0, 1, 2], 1, 1),
    ("rounds", "round_of", NET, [0, 1, 2], 5), ("rounds", "rounds_of", NET, [2, 2, 0]),
    ("rounds", "many_rounds", NET, [2, 2, 0]),
    ("reading", "word_by", NET, [0, 0, 0]), ("reading", "net_by", "cabbac"), ("reading", "place_order", "cabbac"),
    ("reading", "choice_by", "cabbac", [0, 1, 2]),
    ("tables", "is_table", TABLE), ("tables", "is_web", WEB), ("tables", "crossings", "abcabc"),
    ("tables", "part_at", TABLE, [0, 2]), ("tables", "product", TABLE, TABLE), ("tables", "sum_of_rows", TABLE, [2]),
    ("ranks", "undoing", TABLE), ("ranks", "rest_of", WEB), ("ranks", "paper_of", WEB), ("ranks", "paper_of", TABLE),
    ("ranks", "shows_rest", [[0]], ([], [], [[0]])),
    ("byrests", "choice_table", "abcabc", [1, 2, 0]), ("byrests", "rounds_by_rest", "abcabc", [1, 2, 0]),
    ("byrests", "passed_once", "aabb", [2, 2]),
    ("changes", "done_all", "abab", []), ("pivots", "pivoted", TABLE, [0]), ("pivots", "pivoted", WEB, [0, 1]),
    ("turnings", "turned_choice", NET, [0, 0, 0], 1), ("turnings", "way_between", NET, [0, 0, 0], [0, 1, 0]),
    ("turnings", "way_between", NET, [0, 0, 0], [0, 0, 0]), ("turnings", "walked", NET, [0, 0, 0], [1, 1, 2]),
    ("undone", "can_undo", TABLE, [0]), ("undone", "sets_of", TABLE), ("undone", "other_number", TABLE, [], [0], 0),
    ("counts", "counts_of", NET, [2, 0, 1]), ("counts", "counts_of", NET), ("counts", "table_counts", TABLE),
    ("counts", "arrowed_counts", WEB), ("counts", "worth_at", [1, 2, 3], -2),
    ("least", "least_writing", "cabbac"), ("least", "compared", "cabbac", "xxyyzz"), ("least", "compared", "aa", "bccb"),
    ("webs", "turned_web", WEB, 1), ("webs", "is_wheel", WHEEL, [0, 1, 2, 3, 4, 5]), ("webs", "told_web", WEB),
    ("webs", "told_web", WHEEL),
)


def asked_of(module, name):
    return getattr(import_module("fourway." + module), name)


def spoil(thing):
    """Every list within a told thing is emptied."""
    if isinstance(thing, (list, tuple)):
        for part in thing:
            spoil(part)
    if isinstance(thing, list):
        thing.clear()


def lists_in(thing):
    found = [thing] if isinstance(thing, list) else []
    for part in thing if isinstance(thing, (list, tuple)) else ():
        found += lists_in(part)
    return found


class Interface(unittest.TestCase):
    def test_every_name_and_its_arguments(self):
        for module, told in INTERFACE.items():
            for one in told:
                name, given = one.rstrip(")").split("(")
                thing = asked_of(module, name)
                if name not in ("RoundError", "Change", "Mirror", "Desk"):
                    self.assertEqual(str(inspect.signature(thing)), f"({given})", one)

    def test_those_made_of_nothing(self):
        self.assertIsInstance(asked_of("desk", "Desk")(), asked_of("desk", "Desk"))
        self.assertIsInstance(asked_of("changes", "Mirror")(), asked_of("changes", "Change"))

    def test_the_methods_of_changes_and_of_the_desk(self):
        for name in ("Turn", "Swap", "Mirror", "Shift"):
            kind = asked_of("changes", name)
            told = [str(inspect.signature(getattr(kind, method))) for method in ("done", "done_web", "back")]
            self.assertEqual(told, ["(self, word)", "(self, letters, web)", "(self)"])
        self.assertEqual(str(inspect.signature(Desk.told)), "(self, line)")

    def test_each_function_is_asked_below(self):
        functions = {(module, one.split("(")[0]) for module, told in INTERFACE.items() for one in told
                     if one[0].islower()}
        self.assertEqual(functions, {(module, name) for module, name, *given in ASKED})


class Own(unittest.TestCase):
    def test_nothing_that_is_handed_in_is_changed(self):
        for module, name, *given in ASKED:
            kept = deepcopy(given)
            asked_of(module, name)(*given)
            self.assertEqual(given, kept, name)

    def test_whatever_is_done_with_what_was_told_changes_nothing(self):
        for module, name, *given in ASKED:
            kept = deepcopy(given)
            told = asked_of(module, name)(*given)
            wanted = deepcopy(told)
            spoil(told)
            self.assertEqual(given, kept, name)
            self.assertEqual(asked_of(module, name)(*given), wanted, name)

    def test_no_told_list_is_another_one_or_was_handed_in(self):
        for module, name, *given in ASKED:
            told = lists_in(asked_of(module, name)(*given))
            ids = [id(one) for one in told + lists_in(tuple(given))]
            self.assertEqual(len(set(ids)) - len({id(one) for one in lists_in(tuple(given))}), len(told), name)

    def test_what_is_changed_after_it_was_handed_in_changes_nothing(self):
        for module, name, *given in ASKED:
            given = deepcopy(given)
            told = asked_of(module, name)(*given)
            wanted = deepcopy(told)
            for one in given:
                spoil(one)
            self.assertEqual(told, wanted, name)

    def test_truths_are_told_where_truths_are_promised(self):
        for module, name in (
            ("nets", "hangs_together"), ("tables", "is_table"), ("tables", "is_web"), ("ranks", "shows_rest"),
            ("undone", "can_undo"), ("webs", "is_wheel"),
        ):
            given = [one[2:] for one in ASKED if one[:2] == (module, name)][0]
            self.assertIs(asked_of(module, name)(*given), True, name)

    def test_numbers_are_whole_and_no_truths(self):
        for module, name in (
            ("nets", "places_in"), ("choices", "joined"), ("rounds", "many_rounds"), ("ranks", "rest_of"),
            ("byrests", "rounds_by_rest"), ("undone", "other_number"), ("counts", "worth_at"),
        ):
            given = [one[2:] for one in ASKED if one[:2] == (module, name)][0]
            self.assertIs(asked_of(module, name)(*given).__class__, int, name)

    def test_no_truth_stands_in_a_told_list(self):
        for module, name, *given in ASKED:
            for one in lists_in(asked_of(module, name)(*given)):
                self.assertNotIn(bool, [part.__class__ for part in one], name)


class Readme(unittest.TestCase):
    def test_its_examples_tell_what_it_says(self):
        blocks = [part.split("```")[0] for part in README.read_text(encoding="utf-8").split("```python\n")[1:]]
        known = {}
        shown = 0
        for block in blocks:
            exec(block, known)
            for row in block.split("\n"):
                code, mark, remark = row.partition("#")
                if mark and not row.startswith(" ") and " = " not in code:
                    # Behind a value there may be words, set off by a colon.
                    value = remark.strip().partition("]: ")
                    wanted = ast.literal_eval(value[0] + "]" if value[1] else value[0])
                    self.assertEqual(eval(code, known), wanted, row)
                    shown += 1
        self.assertGreater(shown, 20)


if __name__ == "__main__":
    unittest.main()
