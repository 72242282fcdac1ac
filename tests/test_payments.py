"""Points 6 to 8: payments, verdicts, and that a pit is best just if payments show it."""

import itertools
import unittest
from random import Random

from pitlots import errors
from pitlots.grounds import Ground
from pitlots.payments import are_payments, payments, shows_best, shows_verdict, verdict
from pitlots.worths import best_worth
from tests import faults, plain

GROUND, WORTHS = Ground(((), (), (0, 1), (1,))), (-2, -3, 4, 2)


def cases():
    dice = Random(8)
    for covers in plain.GREAT:
        for _ in range(8 if len(covers) < 7 else 2):
            yield covers, plain.some_worths(dice, len(covers))
        yield covers, (0,) * len(covers)


def are_plain_payments(covers, worths, triples):
    """What the document says of payments, of a row of triples of integers."""
    paid, got, pairs = {}, {}, []
    for giver, taker, many in triples:
        if many < 1 or worths[giver] <= 0 or worths[taker] >= 0 or taker not in plain.needed(covers, giver):
            return False
        pairs.append((giver, taker))
        paid[giver] = paid.get(giver, 0) + many
        got[taker] = got.get(taker, 0) + many
    if list(triples) != sorted(triples) or len(set(pairs)) < len(pairs):
        return False
    return (all(many <= worths[block] for block, many in paid.items())
            and all(many <= -worths[block] for block, many in got.items()))


def is_plainly_shown(covers, worths, pit, triples):
    for block, worth in enumerate(worths):
        if block in pit and worth < 0:
            if sum(many for giver, taker, many in triples if taker == block and giver in pit) < -worth:
                return False
        if block not in pit and worth > 0:
            if sum(many for giver, taker, many in triples if giver == block) < worth:
                return False
    return True


def all_payments(covers, worths):
    """All payments, for small worths."""
    pairs = [(giver, taker) for giver in range(len(covers)) for taker in sorted(plain.needed(covers, giver))
             if worths[giver] > 0 > worths[taker]]
    most = [range(min(worths[giver], -worths[taker]) + 1) for giver, taker in pairs]
    for amounts in itertools.product(*most):
        value = tuple((*pair, many) for pair, many in zip(pairs, amounts) if many)
        if are_plain_payments(covers, worths, value):
            yield value


def changed(dice, covers, value):
    """Triples with some small thing other than in value: mostly no payments any more."""
    triples = [list(triple) for triple in value]
    for _ in range(dice.randint(1, 2)):
        what = dice.randint(0, 4)
        if what == 0 or not triples:
            triples.insert(dice.randint(0, len(triples)), some_triple(dice, covers))
        elif what == 1:
            triples.pop(dice.randrange(len(triples)))
        elif what == 2:
            triples[dice.randrange(len(triples))][2] += dice.choice((-1, 1))
        elif what == 3:
            triples[dice.randrange(len(triples))] = some_triple(dice, covers)
        else:
            dice.shuffle(triples)
    return tuple(tuple(triple) for triple in triples)


def some_triple(dice, covers):
    return [dice.randrange(len(covers)), dice.randrange(len(covers)), dice.randint(0, 4)]


class PaymentsTest(unittest.TestCase):
    def test_payments_are_payments_with_the_greatest_sum(self):
        for covers, worths in cases():
            value = payments(Ground(covers), worths)
            self.assertIsInstance(value, tuple)
            self.assertTrue(are_plain_payments(covers, worths, value))
            self.assertIs(are_payments(Ground(covers), worths, value), True)
            rich = sum(worth for worth in worths if worth > 0)
            most = max(plain.worth(worths, pit) for pit in plain.pits_of(covers))
            self.assertEqual(rich - sum(many for _, _, many in value), most)

    def test_greatest_sum_of_all_payments(self):
        dice = Random(80)
        for covers in plain.SMALL:
            if len(covers) < 6:
                worths = plain.some_row(dice, len(covers), -2, 2)
                most = max(sum(triple[2] for triple in value) for value in all_payments(covers, worths))
                self.assertEqual(sum(triple[2] for triple in payments(Ground(covers), worths)), most)

    def test_a_payment_that_must_be_taken_back(self):
        # Whoever lets 2 pay 0 first has to let it pay 1 instead, for 3 can pay 0 alone.
        for covers, worths in ((((), (), (0, 1), (0,)), (-3, -3, 3, 3)), (((), (), (0, 1), (1,)), (-3, -3, 3, 3)),
                               (((), (), (), (0, 1), (1, 2), (0,)), (-2, -2, -2, 2, 2, 2))):
            value = payments(Ground(covers), worths)
            self.assertEqual(sum(many for _, _, many in value), sum(worth for worth in worths if worth > 0))

    def test_are_payments_of_triples(self):
        dice, seen = Random(81), {True: 0, False: 0}
        for covers, worths in cases():
            value = payments(Ground(covers), worths)
            for _ in range(12):
                other = changed(dice, covers, value)
                right = are_plain_payments(covers, worths, other)
                seen[right] += 1
                with self.subTest(covers=covers, worths=worths, value=other):
                    self.assertIs(are_payments(Ground(covers), worths, other), right)
        self.assertTrue(min(seen.values()) > 100)

    def test_edges(self):
        right = ((), ((2, 0, 1),), ((2, 0, 2), (2, 1, 2)), ((2, 0, 2), (2, 1, 1), (3, 1, 2)), ((2, 1, 3),),
                 ((2, 0, 1), (2, 1, 1), (3, 1, 1)))
        for value in right:
            self.assertIs(are_payments(GROUND, WORTHS, value), True)
        wrong = {
            "of 0": ((2, 0, 0),), "below 0": ((2, 0, -1),), "a pair twice": ((2, 0, 1), (2, 0, 1)),
            "a pair twice, of unlike many": ((2, 0, 1), (2, 0, 2)), "not ascending": ((2, 1, 1), (2, 0, 1)),
            "froms not ascending": ((3, 1, 1), (2, 0, 1)), "not needed": ((3, 0, 1),), "from itself": ((2, 2, 1),),
            "more than its worth": ((2, 0, 2), (2, 1, 3)), "alone more than its worth": ((3, 1, 3),),
            "more than it is below 0": ((2, 1, 2), (3, 1, 2)), "alone more than it is below 0": ((2, 0, 3),),
            "backward": ((0, 2, 1),), "to one above 0": ((2, 3, 1),), "from one below 0": ((0, 1, 1),),
        }
        for name, value in wrong.items():
            with self.subTest(name):
                self.assertIs(are_payments(GROUND, WORTHS, value), False)

    def test_worths_of_0_neither_pay_nor_get(self):
        for worths, value in (((0, 0, 4, 2), ((2, 0, 1),)), ((-2, -3, 0, 2), ((2, 0, 1),)),
                              ((-2, -3, 4, 0), ((3, 1, 1),))):
            self.assertIs(are_payments(GROUND, worths, value), False)
            self.assertIs(are_payments(GROUND, worths, ()), True)

    def test_payments_over_what_is_needed_through_others(self):
        ground, worths = Ground(((), (0,), (1,))), (-5, 0, 5)
        self.assertEqual(payments(ground, worths), ((2, 0, 5),))
        self.assertIs(are_payments(ground, worths, ((2, 0, 5),)), True)

    def test_any_value(self):
        worths = (-2, -3, 4, 2)
        for value in faults.WRONG + ([], [(2, 0, 1)], ([2, 0, 1],), ((2, 0),), ((2, 0, 1, 1),), ((2, 0, True),),
                                    ((2, False, 1),), ((2, 0, "1"),), ((2, 0, None),), ((2, 0, (1, 1)),),
                                    ((4, 0, 1),), ((-2, 0, 1),), ((2, -4, 1),), ((2, 0, 10 ** 400),), (2, 0, 1),
                                    ((2, 0, 1), None), ((2, 0, 1), ()), {(2, 0, 1): 1}, (((2, 0, 1),),)):
            with self.subTest(value=str(value)[:40]):
                self.assertIs(are_payments(GROUND, worths, value), value == ())
                self.assertIs(shows_best(GROUND, worths, (0, 1, 2, 3), value), False)

    def test_true_neither_pays_nor_gets(self):
        ground, worths = Ground(((), (0,))), (-1, 1)
        self.assertIs(are_payments(ground, worths, ((1, 0, 1),)), True)
        for value in (((True, 0, 1),), ((1, False, 1),), ((1, 0, True),)):
            self.assertIs(are_payments(ground, worths, value), False)


class ShowsBestTest(unittest.TestCase):
    def test_best_just_if_payments_show_it(self):
        for covers, worths in cases():
            ground, value = Ground(covers), payments(Ground(covers), worths)
            best = set(plain.best_pits(covers, worths))
            for pit in plain.pits_of(covers)[::1 if len(covers) < 7 else 17]:
                self.assertIs(shows_best(ground, worths, pit, value), pit in best)

    def test_all_payments_of_small_worths(self):
        dice = Random(82)
        for covers in plain.SMALL:
            if len(covers) < 5:
                worths = plain.some_row(dice, len(covers), -2, 2)
                best = plain.best_pits(covers, worths)
                for pit in plain.pits_of(covers):
                    shown = False
                    for value in all_payments(covers, worths):
                        right = is_plainly_shown(covers, worths, pit, value)
                        self.assertIs(shows_best(Ground(covers), worths, pit, value), right)
                        shown = shown or right
                    self.assertIs(shown, pit in best)

    def test_changed_payments(self):
        dice = Random(83)
        for covers, worths in cases():
            value = payments(Ground(covers), worths)
            pit = dice.choice(plain.best_pits(covers, worths))
            for _ in range(8):
                other = changed(dice, covers, value)
                right = are_plain_payments(covers, worths, other) and is_plainly_shown(covers, worths, pit, other)
                self.assertIs(shows_best(Ground(covers), worths, pit, other), right)

    def test_what_comes_from_beside_the_pit_does_not_count(self):
        # Block 0 is paid by 2, which is beside the pit.
        ground, worths = Ground(((), (0,), (0,))), (-2, 1, 2)
        self.assertIs(shows_best(ground, worths, (0, 1), ((2, 0, 2),)), False)
        self.assertIs(shows_best(ground, worths, (0, 1, 2), ((1, 0, 1), (2, 0, 1))), True)

    def test_best_worth_is_all_above_0_less_payments(self):
        for covers, worths in cases():
            total = sum(many for _, _, many in payments(Ground(covers), worths))
            self.assertEqual(best_worth(Ground(covers), worths), sum(max(worth, 0) for worth in worths) - total)


class VerdictTest(unittest.TestCase):
    def test_verdicts(self):
        for covers, worths in cases():
            ground, best = Ground(covers), plain.best_pits(covers, worths)
            for pit in plain.pits_of(covers)[::1 if len(covers) < 7 else 29] + best[:2]:
                value = verdict(ground, worths, pit)
                self.assertIs(shows_verdict(ground, worths, pit, value), True)
                if pit in best:
                    self.assertEqual(value[0], "best")
                    self.assertTrue(are_plain_payments(covers, worths, value[1]))
                    self.assertTrue(is_plainly_shown(covers, worths, pit, value[1]))
                else:
                    self.assertEqual(value, ("better", plain.common(best)))

    def test_any_pit_that_is_worth_more_shows_it(self):
        dice = Random(84)
        for covers in plain.SMALL:
            worths = plain.some_worths(dice, len(covers))
            for pit in plain.pits_of(covers):
                for lot in plain.all_lots(covers):
                    right = plain.is_closed(covers, lot) and plain.worth(worths, lot) > plain.worth(worths, pit)
                    self.assertIs(shows_verdict(Ground(covers), worths, pit, ("better", lot)), right)

    def test_any_value(self):
        whole, shown = (0, 1, 2, 3), ((2, 0, 2), (2, 1, 2), (3, 1, 1))
        for value in (("best", shown), ("best", ((2, 0, 2), (2, 1, 1), (3, 1, 2)))):
            self.assertIs(shows_verdict(GROUND, WORTHS, whole, value), True)
        for value in (["best", shown], ("best", shown, ()), ("best", list(shown)), ("Best", shown), ("better", shown),
                      ("best",), ("best", ()), ("best", None), (shown, "best"), ("better", whole), ("better", ()),
                      {"best": shown}, ("bes", shown), (True, shown), shown, "best"):
            with self.subTest(value=value):
                self.assertIs(shows_verdict(GROUND, WORTHS, whole, value), False)
        for value in (("better", (0, 1, 2, 3)), ("better", ())):
            self.assertIs(shows_verdict(GROUND, WORTHS, (0,), value), True)
        for value in (("better", (3,)), ("better", (1, 0)), ("better", [0, 1, 2, 3]), ("better", (0,)), ("best", ()),
                      ("Better", (0, 1, 2, 3)), ("", (0, 1, 2, 3)), (None, (0, 1, 2, 3)), ("best", (0, 1, 2, 3)),
                      ("better", (0, 1, 2, 3), ()), ["better", (0, 1, 2, 3)],
                      ("better", (0, 1, 2, 3, 4)), ("better", None), ("better", ((),)), ("better", (0, 1, 2, True))):
            with self.subTest(value=value):
                self.assertIs(shows_verdict(GROUND, WORTHS, (0,), value), False)

    def test_wrong_pits(self):
        for pit, error in (((3,), errors.NotPit), ((1, 0), errors.BadLot), ([0], errors.BadLot)):
            for call in (lambda: verdict(GROUND, WORTHS, pit), lambda: shows_verdict(GROUND, WORTHS, pit, None),
                         lambda: shows_best(GROUND, WORTHS, pit, None)):
                with self.assertRaises(error):
                    call()


if __name__ == "__main__":
    unittest.main()
