"""The interface, and point 1: names and arguments, wrong values in every place, which error is first, nothing changed.
"""

import copy
import importlib
import inspect
import itertools
import unittest

from pitlots import errors
from pitlots.grounds import Ground
from tests import calls, plain

LISTS = ("all_pits next_blocks last_blocks all_best ladder layers pits_by_year").split()
SHOWN = "is_pit shows_chain are_payments shows_best shows_verdict shows_sharing shows_purse".split()


def told_by(function, arguments):
    """The error class that a call raises, None if it raises none."""
    try:
        function(*arguments)
    except errors.PitError as error:
        return error.__class__
    return None


class NamesTest(unittest.TestCase):
    def test_functions(self):
        for call in calls.CALLS:
            with self.subTest(call.name):
                self.assertTrue(inspect.isfunction(call.function))
                self.assertEqual(call.function.__module__, call.module)
                self.assertEqual(list(inspect.signature(call.function).parameters), call.names)

    def test_ground(self):
        self.assertEqual(Ground.__module__, "pitlots.grounds")
        self.assertEqual(list(inspect.signature(Ground).parameters), ["covers"])
        for name in ("__init__", "__eq__", "__len__"):
            self.assertIn(name, vars(Ground))

    def test_by_keywords(self):
        for call in calls.CALLS:
            told = dict(zip(call.names, call.arguments))
            with self.subTest(call.name):
                self.assertEqual(repr_of(call.function(**told)), repr_of(call.function(*call.arguments)))

    def test_modules_hold_what_the_interface_lists(self):
        for call in calls.CALLS:
            self.assertIs(getattr(importlib.import_module(call.module), call.name), call.function)


def repr_of(value):
    """What can be compared of an answer, with its kinds: True is not 1, a list no tuple."""
    return repr(value.covers) if isinstance(value, Ground) else repr(value)


class WrongValuesTest(unittest.TestCase):
    def test_every_value_in_every_place(self):
        for call in calls.CALLS:
            for place, kind in enumerate(call.kinds):
                for value in plain.WRONG:
                    fault = plain.FAULTS[kind](calls.COVERS, value)
                    if fault is None and set(call.kinds[place + 1:]) & {"number", "row", "sharing"}:
                        # These would be those of another pit, or of other costs.
                        continue
                    arguments = call.arguments[:place] + (value,) + call.arguments[place + 1:]
                    with self.subTest(call.name, kind=kind, value=str(value)[:60]):
                        self.assertIs(told_by(call.function, arguments), fault)

    def test_each_kind_meets_wrong_values(self):
        for kind, fault in plain.FAULTS.items():
            faults = [fault(calls.COVERS, value) for value in plain.WRONG]
            self.assertTrue(kind == "any" or sum(found is not None for found in faults) > 40)

    def test_any_value_has_an_answer(self):
        for call in calls.CALLS:
            if call.kinds[-1] == "any":
                for value in plain.WRONG:
                    answer = call.function(*call.arguments[:-1], value)
                    with self.subTest(call.name, value=str(value)[:60]):
                        if call.name == "round_count":
                            self.assertIsNone(answer)
                        else:
                            # Of all these values just no payments at all are payments.
                            self.assertIs(answer, call.name == "are_payments" and value == ())

    def test_other_grounds(self):
        # A worth more or less than there are blocks, and a block of another ground.
        ground = Ground(((), (0,)))
        for call in calls.CALLS:
            faults = [plain.FAULTS[kind](ground.covers, value) for kind, value in zip(call.kinds, call.arguments)]
            first = next((fault for fault in faults if fault), None)
            if call.name not in ("renamed", "place_of", "row_at"):
                with self.subTest(call.name):
                    self.assertIs(told_by(call.function, (ground,) + call.arguments[1:]), first)


class OrderTest(unittest.TestCase):
    """Of several errors the one of the argument that stands first is raised."""

    def test_all_sets_of_wrong_arguments(self):
        for call in calls.CALLS:
            places = [place for place, kind in enumerate(call.kinds) if kind != "any"]
            for wrong in itertools.product((False, True), repeat=len(places)):
                arguments, first = list(call.arguments), None
                for place, is_wrong in zip(places, wrong):
                    if is_wrong:
                        arguments[place] = "wrong"
                        first = first or plain.FAULTS[call.kinds[place]](calls.COVERS, "wrong")
                with self.subTest(call.name, wrong=wrong):
                    self.assertIs(told_by(call.function, arguments), first)

    def test_a_lot_that_is_no_pit_stands_in_its_place(self):
        for call in calls.CALLS:
            if "pit" in call.kinds:
                place = call.kinds.index("pit")
                for pit, error in (((3,), errors.NotPit), ((3, 1), errors.BadLot), ((2, 9), errors.BadLot)):
                    for behind in ("fits", "wrong"):
                        rest = call.arguments[place + 1:]
                        rest = rest if behind == "fits" else ("wrong",) * len(rest)
                        arguments = call.arguments[:place] + (pit,) + rest
                        with self.subTest(call.name, pit=pit):
                            self.assertIs(told_by(call.function, arguments), error)

    def test_wrong_ground_with_any_value(self):
        for call in calls.CALLS:
            with self.subTest(call.name):
                self.assertIs(told_by(call.function, [None] * len(call.names)), errors.BadGround)


class KeptTest(unittest.TestCase):
    """Nothing is changed by a call, and equal values have equal answers."""

    def test_raising_calls_change_nothing(self):
        for call in calls.CALLS:
            before = repr_of(call.function(*call.arguments))
            for place, kind in enumerate(call.kinds):
                told_by(call.function, call.arguments[:place] + ([{0: "wrong"}],) + call.arguments[place + 1:])
            with self.subTest(call.name):
                self.assertEqual(repr_of(call.function(*call.arguments)), before)
                self.assertEqual(call.arguments[0].covers, calls.COVERS)

    def test_arguments_are_not_modified(self):
        for call in calls.CALLS:
            kept = repr(call.arguments[1:])
            call.function(*call.arguments)
            with self.subTest(call.name):
                self.assertEqual(repr(call.arguments[1:]), kept)
                self.assertEqual(call.arguments[0].covers, calls.COVERS)

    def test_wrong_arguments_are_not_modified(self):
        for call in calls.CALLS:
            for place in range(len(call.kinds)):
                for value in plain.WRONG:
                    if isinstance(value, (list, dict, tuple)):
                        kept = copy.deepcopy(value)
                        told_by(call.function, call.arguments[:place] + (value,) + call.arguments[place + 1:])
                        self.assertEqual(value, kept)

    def test_returned_lists_are_new(self):
        for call in calls.CALLS:
            answer = call.function(*call.arguments)
            with self.subTest(call.name):
                self.assertEqual(isinstance(answer, list), call.name in LISTS)
                if isinstance(answer, list):
                    kept = list(answer)
                    self.assertTrue(answer)
                    answer.clear()
                    self.assertEqual(call.function(*call.arguments), kept)

    def test_equal_values_have_equal_answers(self):
        ground = Ground(tuple([tuple([first for first in range(4) if first in firsts]) for firsts in calls.COVERS]))
        for call in calls.CALLS:
            # Written and read again all values are other objects.
            others = eval(repr(call.arguments[1:]))
            with self.subTest(call.name):
                self.assertEqual(repr_of(call.function(ground, *others)), repr_of(call.function(*call.arguments)))

    def test_what_is_shown_is_true(self):
        for call in calls.CALLS:
            if call.name in SHOWN:
                with self.subTest(call.name):
                    self.assertIs(call.function(*call.arguments), True)


if __name__ == "__main__":
    unittest.main()
