"""The interface, and point 1: names and arguments, wrong values in every place, which error is first, nothing changed.
"""

import copy
import inspect
import itertools
import unittest

from pitlots import errors, texts
from pitlots.desk import Desk
from pitlots.grounds import Ground
from pitlots.slopes import Table
from tests import calls, faults, plain

LISTS = """
    all_pits next_blocks last_blocks all_best ladder layers pits_by_year arms_next arms_pits all_profiles held_by
    open_columns ridges sure_pits possible_pits all_splits agreeing_pits pits_with digs_of pits_behind
    fair_ladder tight_parties
""".split()
# The calls of these in calls.CALLS are told a value that is shown.
SHOWN = """
    is_pit shows_chain are_payments shows_best shows_verdict shows_sharing shows_purse are_pairs is_profile is_flatter
    can_refill is_sure is_possible shows_sure shows_probe_plan holds_for fits shows_way shares_hold
""".split()
# Those of faults.WRONG that are what a function asks of any value whether it is; of no others is that so.
TRUE_OF_ANY = {
    "are_payments": [()],
    "are_pairs": [(), ((0, 1),)],
    "is_profile": plain.profiles(calls.COLUMNS, calls.RULES),
    "shows_way": [(0, 0, 4, 4, 4), (0, 0, 0, 0, 1)],
    "shares_hold": [((2, 1), (1, 1), (1, 1), (0, 1)), ((3, 2), (1, 2), (2, 1), (0, 1))],
}
# Of these the answer is None, but for the values of faults.WRONG that stand here with theirs.
NONE_OF_ANY = {"round_count": {}, "worth_by_when": {((), ()): 0}}
OTHER = {
    "ground": (Ground(((), (0,))), ((), (0,))),
    "table": (Table((1, 1), ((1, 1),)), ((1, 1), ((1, 1),))),
}


def told_by(function, arguments):
    """The error class that a call raises, and its fields; None if it raises none."""
    try:
        function(*arguments)
    except errors.PitError as error:
        return error.__class__, vars(error)
    return None


def told(error):
    """The same of an error that is awaited."""
    return None if error is None else (error.__class__, vars(error))


def shown(value):
    """What can be compared of an answer, with its kinds: True is not 1, a list no tuple."""
    if isinstance(value, Ground):
        return "Ground", shown(value.covers)
    if isinstance(value, Table):
        return "Table", shown(value.columns), shown(value.rules)
    if isinstance(value, (list, tuple)):
        return value.__class__.__name__, [shown(item) for item in value]
    return repr(value)


def made_again(value):
    """An equal value that is another object, whatever is in it."""
    if isinstance(value, Ground):
        return Ground(made_again(value.covers))
    if isinstance(value, Table):
        return Table(made_again(value.columns), made_again(value.rules))
    return eval(repr(value))


class NamesTest(unittest.TestCase):
    def test_functions(self):
        for call in calls.CALLS:
            with self.subTest(call.title()):
                self.assertTrue(inspect.isfunction(call.function))
                self.assertEqual(call.function.__module__, call.module)
                self.assertEqual(list(inspect.signature(call.function).parameters), call.names)

    def test_classes(self):
        for kind, module, names, methods in (
                (Ground, "grounds", ["covers"], "__init__ __eq__ __len__"),
                (Table, "slopes", ["columns", "rules"], "__init__ __eq__"),
                (Desk, "desk", ["ground", "worths"],
                 "__init__ __len__ dig set_worth add_need drop_need undo redo copy best")):
            self.assertEqual(kind.__module__, "pitlots." + module)
            self.assertEqual(list(inspect.signature(kind).parameters), names)
            for name in methods.split():
                self.assertIn(name, vars(kind))

    def test_methods_of_the_desk(self):
        for name, names in (("dig", ["block"]), ("set_worth", ["block", "worth"]), ("add_need", ["block", "other"]),
                            ("drop_need", ["block", "other"]), ("undo", []), ("redo", []), ("copy", []), ("best", [])):
            self.assertEqual(list(inspect.signature(getattr(Desk, name)).parameters), ["self"] + names)
        desk = Desk(Ground(calls.COVERS), calls.WORTHS)
        self.assertEqual((desk.own_worths, desk.own_pit, desk.own_log), (calls.WORTHS, (), ()))
        self.assertEqual(desk.own_ground, Ground(calls.COVERS))

    def test_the_function_of_a_text(self):
        self.assertTrue(inspect.isfunction(texts.read))
        self.assertEqual(texts.read.__module__, "pitlots.texts")
        self.assertEqual(list(inspect.signature(texts.read).parameters), ["text"])

    def test_all_that_the_package_has_for_callers_is_called(self):
        # Each function that the calls tell stands in the interface; so do these, in the order of its modules.
        modules = []
        for call in calls.CALLS:
            if call.module not in modules:
                modules.append(call.module)
        self.assertEqual([module.split(".")[1] for module in modules], """
            grounds chains pits worths payments prices ladders sharings rows purses rounds twins arms periods slopes
            depths refills doubling changes bounds choices probing probelogs knowing leases splits joins drawings
            diglogs logmends hauls texts averages fairness
        """.split())
        self.assertEqual(len(calls.CALLS), len({call.title() for call in calls.CALLS}))

    def test_by_keywords(self):
        for call in calls.CALLS:
            named = dict(zip(call.names, call.arguments))
            with self.subTest(call.title()):
                self.assertEqual(shown(call.function(**named)), shown(call.function(*call.arguments)))


class WrongValuesTest(unittest.TestCase):
    def test_every_value_in_every_place(self):
        for call in calls.CALLS:
            for place, kind in enumerate(call.kinds):
                for value in faults.WRONG:
                    fault = faults.FAULTS[kind](call.shape, value)
                    if fault is None and set(call.kinds[place + 1:]) & faults.HANGING:
                        continue
                    arguments = call.arguments[:place] + (value,) + call.arguments[place + 1:]
                    with self.subTest(call.title(), kind=kind, value=str(value)[:60]):
                        self.assertEqual(told_by(call.function, arguments), told(fault))

    def test_each_kind_meets_wrong_values(self):
        asked = {(kind, place) for call in calls.CALLS for place, kind in enumerate(call.kinds)}
        for call in calls.CALLS:
            for kind in call.kinds:
                found = [faults.FAULTS[kind](call.shape, value) for value in faults.WRONG]
                self.assertTrue(kind == "any" or sum(fault is not None for fault in found) > 40)
        self.assertEqual({kind for kind, _ in asked}, set(faults.FAULTS))

    def test_fields_of_wrong_values(self):
        # The values are such that each index of an error is met, not just the first one.
        met = {}
        for call in calls.CALLS:
            for kind in call.kinds:
                for value in faults.WRONG:
                    fault = faults.FAULTS[kind](call.shape, value)
                    if fault is not None and vars(fault):
                        met.setdefault(kind, set()).add(tuple(vars(fault).values()))
        for kind, fields in met.items():
            self.assertTrue(len(fields) >= 3, (kind, fields))

    def test_any_value_has_an_answer(self):
        for call in calls.CALLS:
            if call.kinds[-1] == "any":
                for value in faults.WRONG:
                    answer = call.function(*call.arguments[:-1], value)
                    with self.subTest(call.title(), value=str(value)[:60]):
                        if call.name in NONE_OF_ANY:
                            answers = {repr(some): number for some, number in NONE_OF_ANY[call.name].items()}
                            self.assertEqual(answer, answers.get(repr(value)))
                        else:
                            self.assertIs(answer, faults.is_one_of(value, TRUE_OF_ANY.get(call.name, [])))

    def test_with_another_ground_or_table(self):
        # A worth more or less than there are blocks, and a block of another ground.
        for call in calls.CALLS:
            if not set(call.kinds) & faults.HANGING and call.name != "renamed":
                other, shape = OTHER[call.kinds[0]]
                found = [faults.FAULTS[kind](shape, value) for kind, value in zip(call.kinds, call.arguments)]
                first = next((fault for fault in found if fault), None)
                with self.subTest(call.title()):
                    self.assertEqual(told_by(call.function, (other,) + call.arguments[1:]), told(first))


class OrderTest(unittest.TestCase):
    """Of several errors the one of the argument that stands first is raised."""

    def test_all_sets_of_wrong_arguments(self):
        for call in calls.CALLS:
            places = [place for place, kind in enumerate(call.kinds) if kind != "any"]
            for wrong in itertools.product((False, True), repeat=len(places)):
                arguments, first = list(call.arguments), None
                for place, is_wrong in zip(places, wrong):
                    if is_wrong:
                        arguments[place] = "wrong"
                        first = first or faults.FAULTS[call.kinds[place]](call.shape, "wrong")
                with self.subTest(call.title(), wrong=wrong):
                    self.assertEqual(told_by(call.function, arguments), told(first))

    def test_a_lot_that_is_no_pit_stands_in_its_place(self):
        for call in calls.CALLS:
            for place, kind in enumerate(call.kinds):
                if kind in ("pit", "open", "cells", "doubled_pit", "part"):
                    for pit, error in (((3,), errors.NotPit), ((3, 1), errors.BadLot), ((2, 9), errors.BadLot)):
                        for behind in ("fits", "wrong"):
                            rest = call.arguments[place + 1:]
                            rest = rest if behind == "fits" else ("wrong",) * len(rest)
                            arguments = call.arguments[:place] + (pit,) + rest
                            with self.subTest(call.title(), pit=pit):
                                self.assertEqual(told_by(call.function, arguments), (error, {}))

    def test_wrong_ground_or_table_with_any_value(self):
        for call in calls.CALLS:
            error = {"ground": errors.BadGround, "table": errors.BadTable}[call.kinds[0]]
            for first in (None, Table((1,), ()) if call.kinds[0] == "ground" else Ground(((),))):
                with self.subTest(call.title()):
                    self.assertEqual(told_by(call.function, [first] + [None] * len(call.names[1:])), (error, {}))


class KeptTest(unittest.TestCase):
    """Nothing is changed by a call, and equal values have equal answers."""

    def test_raising_calls_change_nothing(self):
        for call in calls.CALLS:
            before = shown(call.function(*call.arguments))
            for place, kind in enumerate(call.kinds):
                told_by(call.function, call.arguments[:place] + ([{0: "wrong"}],) + call.arguments[place + 1:])
            with self.subTest(call.title()):
                self.assertEqual(shown(call.function(*call.arguments)), before)

    def test_arguments_are_not_modified(self):
        for call in calls.CALLS:
            kept = shown(call.arguments)
            call.function(*call.arguments)
            with self.subTest(call.title()):
                self.assertEqual(shown(call.arguments), kept)

    def test_wrong_arguments_are_not_modified(self):
        for call in calls.CALLS:
            for place in range(len(call.kinds)):
                for value in faults.WRONG:
                    if isinstance(value, (list, dict, tuple)):
                        kept = copy.deepcopy(value)
                        told_by(call.function, call.arguments[:place] + (value,) + call.arguments[place + 1:])
                        self.assertEqual(value, kept)

    def test_returned_lists_are_new(self):
        for call in calls.CALLS:
            answer = call.function(*call.arguments)
            with self.subTest(call.title()):
                self.assertEqual(isinstance(answer, list), call.name in LISTS)
                if isinstance(answer, list):
                    kept = list(answer)
                    self.assertTrue(answer)
                    answer.clear()
                    self.assertEqual(call.function(*call.arguments), kept)

    def test_equal_values_have_equal_answers(self):
        for call in calls.CALLS:
            others = [made_again(value) for value in call.arguments]
            with self.subTest(call.title()):
                self.assertEqual(shown(call.function(*others)), shown(call.function(*call.arguments)))

    def test_what_is_shown_is_true(self):
        for call in calls.CALLS:
            if call.name in SHOWN:
                with self.subTest(call.title()):
                    self.assertIs(call.function(*call.arguments), True)


if __name__ == "__main__":
    unittest.main()
