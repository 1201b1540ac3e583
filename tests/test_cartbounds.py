"""Points 7.8 to 7.11: tellings of a cart, the weights that fit them, and bounds of sums."""

import random
import unittest
from fractions import Fraction
from itertools import permutations

from tests.helper import (
    Case, NOT_RATIOS, NOT_SEQUENCES, NOT_WHOLE, fraction, great, place, ratio,
)
from wherelaid.cartbounds import (
    NoCart, SumBounds, check_tellings, fitting_weights, limit_verdict, needless_tellings, next_tie,
    ring_fault, sum_bounds, suspect_tellings, tellings_of, weights_of_sum,
)
from wherelaid.carts import Cart, stops_of
from wherelaid.errors import (
    BadAmount, BadCount, BadMarks, BadSlack, BadTelling, BadTie, BadTieShowings, NoFit, NotMet,
)
from wherelaid.loads import centre_of
from wherelaid.marks import sure_axles
from wherelaid.ratios import plus
from wherelaid.scales import Plain
from wherelaid.skins import lower_at, range_of, upper_at

ONE, ZERO = ratio(1), ratio(0)
BAD_MARKS = ((0, 4), (-1, 2), (1, 1), (2, 1), (0, True), (False, 1), (None, 1), ("0", 1), (0, (1, 1)))


def row(low, high, least, most):
    return (low, high, ratio(least), ratio(most))


# Three axles: 0 to 1 weigh from 2 to 5, 1 to 3 from 3 to 4, all from 6 to 20.
TELLINGS = (row(0, 1, 2, 5), row(1, 3, 3, 4), row(0, 3, 6, 20))
# The first two add up to at most 4, all are told to be at least 5.
CLASHING = (row(0, 1, 0, 1), row(1, 2, 0, 3), row(0, 2, 5, 9), row(2, 3, 1, 1))


def amounts(weights):
    return [fraction(weight) for weight in weights]


def sum_between(weights, low, high):
    return sum(amounts(weights[low:high]), Fraction(0))


def fits(count, tellings, weights):
    """Whether these are weights that fit, by the words of the document."""
    if type(weights) is not tuple or len(weights) != count or min(amounts(weights)) < 0:
        return False
    return all(fraction(least) <= sum_between(weights, low, high) <= fraction(most)
               for low, high, least, most in tellings)


def bounds_of(count, tellings):
    """A dict: what each bound leads from, leads to and adds."""
    found = {}
    for number, (low, high, least, most) in enumerate(tellings):
        found["most", number] = (low, high, fraction(most))
        found["least", number] = (high, low, -fraction(least))
    for axle in range(count):
        found["weight", axle] = (axle + 1, axle, Fraction(0))
    return found


def walk(count, tellings, bounds):
    """(start, goal, sum) of bounds that follow, None if they do not."""
    table = bounds_of(count, tellings)
    rows = [table[bound] for bound in bounds]
    if any(one[1] != two[0] for one, two in zip(rows, rows[1:])):
        return None
    return (rows[0][0], rows[-1][1], sum(one[2] for one in rows)) if rows else None


def least_ways(count, tellings):
    """The least sums of bounds between two marks, by going on over one more mark in turn."""
    ways = {(mark, mark): Fraction(0) for mark in range(count + 1)}
    for start, goal, size in bounds_of(count, tellings).values():
        if start != goal:
            ways[start, goal] = min(size, ways.get((start, goal), size))
    for middle in range(count + 1):
        for start in range(count + 1):
            for goal in range(count + 1):
                if (start, middle) in ways and (middle, goal) in ways:
                    size = ways[start, middle] + ways[middle, goal]
                    ways[start, goal] = min(size, ways.get((start, goal), size))
    return ways


def has_bad_ring(count, tellings):
    """Whether some ring adds a sum below 0, by going through all rings without a mark twice."""
    best = {}
    for start, goal, size in bounds_of(count, tellings).values():
        best[start, goal] = min(size, best.get((start, goal), size))
    for size in range(2, count + 2):
        for marks in permutations(range(count + 1), size):
            steps = list(zip(marks, marks[1:] + marks[:1]))
            if all(step in best for step in steps) and sum(best[step] for step in steps) < 0:
                return True
    return False


def some_tellings(seed, rounds=60, counts=(1, 2, 3, 4, 8), most=6):
    """Couples (count, tellings): some have weights that fit, some none, some have equal rows."""
    lot = random.Random(seed)
    for number in range(rounds):
        count = counts[number % len(counts)]
        true = [lot.choice((0, 1, 2, 5, Fraction(7, 2))) for _ in range(count)]
        rows = []
        for _ in range(lot.randint(0, most) if number % 9 else 24):
            low, high = sorted(lot.sample(range(count + 1), 2))
            middle = sum(true[low:high], Fraction(0))
            if number % 2 == 1:
                middle += lot.choice((0, 0, 2, -3, Fraction(1, 2)))
            slack = lot.choice((0, 0, 1, Fraction(1, 2), 3))
            rows.append(row(low, high, middle - slack, middle + lot.choice((slack, slack, 100))))
            if lot.random() < 0.1:
                rows.append(rows[-1])
        yield count, tuple(rows[:24])


def pairs(count):
    return [(low, high) for low in range(count + 1) for high in range(low + 1, count + 1)]


class Tellings(Case):

    def test_right_ones(self):
        self.assertEqual(self.takes_lists(check_tellings, 3, TELLINGS), TELLINGS)
        self.tuples(check_tellings(3, [list(one) for one in TELLINGS]))
        self.assertEqual(check_tellings(1, []), ())
        self.assertEqual(check_tellings(8, [[0, 8, ZERO, ZERO]] * 24), ((0, 8, ZERO, ZERO),) * 24)
        wide = row(0, 1, "-7/2", 10 ** 200)
        self.assertEqual(check_tellings(1, (wide,)), (wide,))

    def test_refusals_by_all(self):
        ends = {check_tellings: (), fitting_weights: (), ring_fault: (None,), sum_bounds: (None, None),
                weights_of_sum: (None,) * 3, limit_verdict: (None,) * 3, next_tie: (None,),
                needless_tellings: (), suspect_tellings: ()}
        for call, rest in ends.items():
            for count in NOT_WHOLE + (0, 9, -1):
                self.refuses(BadCount, (count,), call, count, None, *rest)
            for thing in NOT_SEQUENCES + ((TELLINGS[0],) * 25,):
                self.refuses(BadTelling, (0, "many"), call, 3, thing, *rest)
            for one in (None, 0, "0123", (), (0, 1), (0, 1, ONE), (0, 1, ONE, ONE, ONE), {0: 0, 1: 1, 2: 2, 3: 3}):
                self.refuses(BadTelling, (1, "telling"), call, 3, (TELLINGS[0], one, None), *rest)
            for marks in BAD_MARKS:
                self.refuses(BadTelling, (1, "marks"), call, 3, (TELLINGS[0], (*marks, None, 0), None), *rest)
            for size in NOT_RATIOS:
                self.refuses(BadTelling, (1, "amount"), call, 3, (TELLINGS[0], (0, 1, size, ZERO), None), *rest)
                self.refuses(BadTelling, (0, "amount"), call, 3, [[0, 1, ONE, size], None], *rest)
            for least, most in ((1, 0), ("1/2", "1/3"), (0, -1), (-1, -2)):
                self.refuses(BadTelling, (1, "order"), call, 3, (TELLINGS[0], row(0, 1, least, most), None), *rest)

    def test_refused_marks(self):
        for call, rest in ((sum_bounds, ()), (weights_of_sum, (None,)), (limit_verdict, (None,))):
            for low, high in BAD_MARKS:
                self.refuses(BadMarks, (low, high), call, 3, CLASHING, low, high, *rest)
        self.refuses(BadTelling, (0, "telling"), sum_bounds, 3, [None], 5, 5)

    def test_of_ties(self):
        told = tellings_of(3, [[0, 1], (1, 3), (0, 1)], [ratio(4), ratio("1/2"), ratio(-2)], ratio("1/3"))
        self.assertEqual(told, (row(0, 1, "11/3", "13/3"), row(1, 3, "1/6", "5/6"), row(0, 1, "-7/3", "-5/3")))
        self.assertEqual(tellings_of(8, (), (), ZERO), ())
        self.assertEqual(tellings_of(1, ((0, 1),), (ONE,), ZERO), (row(0, 1, 1, 1),))
        self.takes_lists(tellings_of, 3, ((0, 1), (1, 3)), (ONE, ratio("2/3")), ratio(2))
        self.tuples(told)

    def test_of_ties_refuses(self):
        self.refuses(BadCount, (9,), tellings_of, 9, None, None, None)
        self.refuses(BadTie, (0, "many"), tellings_of, 3, None, None, None)
        self.refuses(BadTie, (1, "marks"), tellings_of, 3, ((0, 1), (2, 4)), None, None)
        for thing in NOT_SEQUENCES + ((), (ONE,), (ONE,) * 3):
            self.refuses(BadTieShowings, (thing,), tellings_of, 3, ((0, 1), (1, 2)), thing, None)
        for size in NOT_RATIOS:
            self.refuses(BadTieShowings, ((ONE, size),), tellings_of, 3, ((0, 1), (1, 2)), (ONE, size), None)
        for slack in NOT_RATIOS + (ratio(-1), ratio("-1/9")):
            self.refuses(BadSlack, (slack,), tellings_of, 3, ((0, 1),), (ONE,), slack)


class Fitting(Case):

    def test_samples(self):
        self.assertTrue(fits(3, TELLINGS, fitting_weights(3, TELLINGS)))
        self.assertTrue(fits(8, (), fitting_weights(8, ())))
        told = fitting_weights(3, CLASHING)
        self.assertIs(type(told), NoCart)
        start, goal, size = walk(3, CLASHING, told.ring)
        self.assertEqual((goal, size), (start, Fraction(-1)))
        self.assertEqual(sorted(told.ring), [("least", 2), ("most", 0), ("most", 1)])
        # Weights are from 0 on: a most below 0 alone fits none, and a part is at most the whole.
        self.assertEqual(sorted(fitting_weights(2, (row(0, 2, -5, -1),)).ring),
                         [("most", 0), ("weight", 0), ("weight", 1)])
        self.assertEqual(sorted(fitting_weights(3, (row(1, 2, 4, 9), row(0, 3, 0, 3))).ring),
                         [("least", 0), ("most", 1), ("weight", 0), ("weight", 2)])
        self.assertTrue(fits(1, (row(0, 1, -5, 0),), fitting_weights(1, (row(0, 1, -5, 0),))))

    def test_by_all_rings(self):
        kinds = [0, 0]
        for count, tellings in some_tellings(1, 150):
            told = self.takes_lists(fitting_weights, count, tellings)
            bad = isinstance(told, NoCart)
            kinds[bad] += 1
            if count < 5:
                self.assertEqual(bad, has_bad_ring(count, tellings))
            if bad:
                self.assertIs(type(told.ring), tuple)
                self.assertTrue(all(type(bound) is tuple for bound in told.ring))
                start, goal, size = walk(count, tellings, told.ring)
                self.assertEqual(start, goal)
                self.assertLess(size, 0)
                self.assertIsNone(ring_fault(count, tellings, told))
            else:
                self.assertTrue(fits(count, tellings, told))
                self.tuples(told)
        self.assertGreater(min(kinds), 15, kinds)

    def test_great_numbers(self):
        sizes = [great(150, 3 * k) for k in range(8)]
        tellings = [(k, k + 1, sizes[k], sizes[k]) for k in range(8)]
        self.assertEqual(fitting_weights(8, tellings), tuple(sizes))
        whole = sum(fraction(size) for size in sizes)
        off = Fraction(1, 10 ** 280)
        told = fitting_weights(8, [*tellings, (0, 8, ratio(whole + off), ratio(whole + 1))])
        self.assertEqual(walk(8, [*tellings, (0, 8, ratio(whole + off), ONE)], told.ring)[2], -off)


class JudgingRings(Case):

    def judge(self, ring, tellings=CLASHING):
        return ring_fault(3, tellings, NoCart(ring))

    def test_bounds(self):
        good = (("least", 2), ("most", 0), ("most", 1))
        self.assertIsNone(self.judge(good))
        self.assertIsNone(self.judge([list(bound) for bound in good]))
        for thing in NOT_SEQUENCES + (
                (), [], (None,), ("most",), (("most",),), (("most", 0, 1),), (("most", 4),), (("least", -1),),
                (("most", True),), (("most", "0"),), (("weight", 3),), (("Most", 0),), ((0, "most"),), (("most", None),),
                (("", 0),), ((["most"], 0),), (("most", 0.0),), (*good, None), (*good, ("axle", 0)), ("ab", "cd")):
            self.assertEqual(self.judge(thing), "bounds")
        for thing in (None, 0, True, "ring", (), [], good, NoCart, SumBounds(ZERO, ONE, good, good)):
            self.assertEqual(ring_fault(3, CLASHING, thing), "bounds")

    def test_walks(self):
        for ring in ((("most", 0),), (("least", 2), ("most", 1), ("most", 0)), (("least", 2), ("most", 0)),
                     (("weight", 0),), (("weight", 0), ("weight", 1)), (("most", 0), ("most", 1)),
                     (("most", 0), ("most", 1), ("least", 3), ("least", 2))):
            self.assertEqual(self.judge(ring), "walk")

    def test_sums(self):
        for ring in ((("most", 0), ("least", 0)), (("most", 0), ("weight", 0)), (("most", 3), ("least", 3)),
                     (("weight", 1), ("most", 1)), (("most", 0), ("most", 1), ("weight", 1), ("weight", 0))):
            self.assertEqual(self.judge(ring), "sum")
        # The sum is just 0.
        even = (row(0, 1, 0, 1), row(1, 2, 0, 3), row(0, 2, 4, 9))
        ring = (("least", 2), ("most", 0), ("most", 1))
        self.assertEqual(self.judge(ring, even), "sum")
        self.assertIsNone(self.judge(ring, (*even[:2], row(0, 2, "401/100", 9))))

    def test_from_any_bound_and_around_twice(self):
        good = (("least", 2), ("most", 0), ("most", 1))
        for at in range(3):
            self.assertIsNone(self.judge(good[at:] + good[:at]))
        self.assertIsNone(self.judge(good + good))


class SumsBetween(Case):

    def check(self, count, tellings, low, high):
        told = self.takes_lists(sum_bounds, count, tellings, low, high)
        ways = least_ways(count, tellings)
        if min(ways[mark, mark] for mark in range(count + 1)) < 0:
            self.assertIs(type(told), NoCart)
            self.assertIsNone(ring_fault(count, tellings, told))
            return told
        self.assertIs(type(told), SumBounds)
        least = -ways[high, low]
        self.assertEqual(fraction(told.least), least)
        self.trail(count, tellings, told.least_trail, (high, low, -least))
        most = ways.get((low, high))
        if most is None:
            self.assertEqual((told.most, told.most_trail), (None, None))
        else:
            self.assertEqual(fraction(told.most), most)
            self.trail(count, tellings, told.most_trail, (low, high, most))
        return told

    def trail(self, count, tellings, bounds, want):
        self.assertIs(type(bounds), tuple)
        self.assertTrue(all(type(bound) is tuple for bound in bounds))
        self.assertEqual(walk(count, tellings, bounds), want)

    def test_samples(self):
        told = self.check(3, TELLINGS, 0, 3)
        self.assertEqual((told.least, told.most), (ratio(6), ratio(9)))
        self.assertEqual(told.most_trail, (("most", 0), ("most", 1)))
        self.assertEqual(told.least_trail, (("least", 2),))
        told = self.check(3, TELLINGS, 1, 2)
        self.assertEqual((told.least, told.most), (ZERO, ratio(4)))
        told = self.check(3, (), 0, 2)
        self.assertEqual((told.least, told.most, told.most_trail), (ZERO, None, None))
        self.assertEqual(told.least_trail, (("weight", 1), ("weight", 0)))
        self.assertEqual(self.check(3, (row(0, 3, 1, 2),), 1, 2).most, ratio(2))
        self.assertIsNone(self.check(3, (row(0, 1, 1, 2),), 0, 2).most)
        self.assertEqual(self.check(3, (row(0, 1, 1, 2),), 0, 2).least, ONE)
        self.assertIs(type(self.check(3, CLASHING, 0, 1)), NoCart)

    def test_many(self):
        kinds = {}
        lot = random.Random(3)
        for count, tellings in some_tellings(2, 90):
            for low, high in lot.sample(pairs(count), min(4, len(pairs(count)))):
                told = self.check(count, tellings, low, high)
                kind = None if isinstance(told, NoCart) else told.most is None
                kinds[kind] = kinds.get(kind, 0) + 1
                if kind is not None:
                    self.meet(count, tellings, low, high, told)
                else:
                    self.refuses(NotMet, (ONE,), weights_of_sum, count, tellings, low, high, ONE)
        self.assertGreater(min(kinds[kind] for kind in (None, True, False)), 10, kinds)

    def meet(self, count, tellings, low, high, told):
        """Check that just the sums from least to most are met."""
        least = fraction(told.least)
        most = least + 50 if told.most is None else fraction(told.most)
        for amount in (least, most, (least + most) / 2, (2 * least + most) / 3):
            weights = self.takes_lists(weights_of_sum, count, tellings, low, high, ratio(amount))
            self.assertTrue(fits(count, tellings, weights))
            self.assertEqual(sum_between(weights, low, high), amount)
        off = Fraction(1, 10 ** 40)
        beyond = [least - off] + ([] if told.most is None else [most + off])
        for amount in beyond:
            self.refuses(NotMet, (ratio(amount),), weights_of_sum, count, tellings, low, high, ratio(amount))

    def test_refused_amounts(self):
        for size in NOT_RATIOS:
            self.refuses(BadAmount, (size,), weights_of_sum, 3, CLASHING, 0, 1, size)
        self.refuses(NotMet, (ratio(-1),), weights_of_sum, 3, (), 0, 1, ratio(-1))
        self.refuses(NotMet, (ZERO,), weights_of_sum, 3, CLASHING, 2, 3, ZERO)
        full = (row(0, 1, 0, 9),) * 24
        self.assertEqual(weights_of_sum(1, full, 0, 1, ratio(9)), (ratio(9),))


class Verdicts(Case):

    def test_samples(self):
        for limit, want in ((9, "within"), (10, "within"), ("899/100", "maybe"), (6, "maybe"), ("599/100", "over"),
                            (-3, "over"), (7, "maybe")):
            self.assertEqual(limit_verdict(3, TELLINGS, 0, 3, ratio(limit)), want)
        self.assertEqual(limit_verdict(3, (), 0, 3, ratio(10 ** 200)), "maybe")
        self.assertEqual(limit_verdict(3, (), 0, 3, ZERO), "maybe")
        self.assertEqual(limit_verdict(3, (), 0, 3, ratio("-1/9")), "over")
        self.assertEqual(limit_verdict(1, (row(0, 1, 3, 3),), 0, 1, ratio(3)), "within")

    def test_many(self):
        seen = {}
        for count, tellings in some_tellings(5, 40):
            ways = least_ways(count, tellings)
            if min(ways[mark, mark] for mark in range(count + 1)) < 0:
                self.refuses(NoFit, (len(tellings),), limit_verdict, count, tellings, 0, 1, ONE)
                continue
            for low, high in pairs(count)[:6]:
                least, most = -ways[high, low], ways.get((low, high))
                off = Fraction(1, 1000)
                limits = [least - off, least, least + off] + ([] if most is None else [most - off, most, most + off])
                for limit in limits:
                    told = limit_verdict(count, tellings, low, high, ratio(limit))
                    want = "over" if least > limit else "maybe"
                    if most is not None and most <= limit:
                        want = "within"
                    self.assertEqual(told, want)
                    seen[told] = True
        self.assertEqual(len(seen), 3)

    def test_refusals(self):
        for size in NOT_RATIOS:
            self.refuses(BadAmount, (size,), limit_verdict, 3, CLASHING, 0, 1, size)
        self.refuses(NoFit, (4,), limit_verdict, 3, CLASHING, 0, 1, ONE)
        self.refuses(BadMarks, (0, 9), limit_verdict, 3, CLASHING, 0, 9, None)


class NextTies(Case):

    def test_samples(self):
        ties = ((0, 1), (1, 3), (0, 3), (1, 2))
        self.assertEqual(next_tie(3, TELLINGS, ties), (3, ratio(4)))
        self.assertEqual(next_tie(3, TELLINGS, ties[:3]), (0, ratio(3)))
        self.assertEqual(next_tie(3, TELLINGS, [(0, 3), [0, 1], (0, 3)]), (0, ratio(3)))
        self.assertEqual(next_tie(3, TELLINGS, ((1, 3),)), (0, ONE))
        self.assertEqual(next_tie(3, TELLINGS[:1], ((0, 1), (1, 2), (0, 3))), (1, None))
        self.assertEqual(next_tie(3, (row(0, 3, 2, 2),), ((0, 3),)), (0, ZERO))
        self.assertIsNone(next_tie(3, TELLINGS, ()))
        self.takes_lists(next_tie, 3, TELLINGS, ties)
        self.assertIs(type(next_tie(3, TELLINGS, ties)), tuple)

    def test_many(self):
        lot = random.Random(8)
        for count, tellings in some_tellings(6, 40):
            ties = tuple(lot.choice(pairs(count)) for _ in range(lot.choice((1, 3, 8, 24))))
            if isinstance(fitting_weights(count, tellings), NoCart):
                self.refuses(NoFit, (len(tellings),), next_tie, count, tellings, ties)
                continue
            ways = least_ways(count, tellings)
            widths = [None if (low, high) not in ways else ways[low, high] + ways[high, low] for low, high in ties]
            if None in widths:
                want = (widths.index(None), None)
            else:
                want = (widths.index(max(widths)), ratio(max(widths)))
            self.assertEqual(next_tie(count, tellings, ties), want)

    def test_refusals(self):
        self.refuses(BadTie, (0, "many"), next_tie, 3, CLASHING, None)
        self.refuses(BadTie, (1, "marks"), next_tie, 3, CLASHING, ((0, 1), (0, 4)))
        self.refuses(BadTie, (0, "tie"), next_tie, 3, TELLINGS, (None,))
        # Weights that fit are asked for even where there is no tie.
        self.refuses(NoFit, (4,), next_tie, 3, CLASHING, ())
        self.refuses(NoFit, (4,), next_tie, 3, CLASHING, ((0, 1),))


class NeedlessAndSuspect(Case):

    def test_needless_samples(self):
        self.assertEqual(needless_tellings(3, TELLINGS), ())
        self.assertEqual(needless_tellings(3, (*TELLINGS[:2], row(0, 3, 5, 9))), (2,))
        self.assertEqual(needless_tellings(3, (*TELLINGS[:2], row(0, 3, 5, "899/100"))), ())
        self.assertEqual(needless_tellings(3, (*TELLINGS[:2], row(0, 3, "501/100", 9))), ())
        self.assertEqual(needless_tellings(2, (row(0, 1, 1, 2),) * 2), (0, 1))
        self.assertEqual(needless_tellings(2, (row(0, 1, 1, 2), row(0, 1, 0, 3))), (1,))
        self.assertEqual(needless_tellings(2, ()), ())
        self.assertEqual(needless_tellings(1, (row(0, 1, 0, 5),)), ())
        self.refuses(NoFit, (4,), needless_tellings, 3, CLASHING)

    def test_needless_ones(self):
        seen = set()
        for count, tellings in some_tellings(7, 60):
            if isinstance(fitting_weights(count, tellings), NoCart):
                self.refuses(NoFit, (len(tellings),), needless_tellings, count, tellings)
                continue
            told = self.takes_lists(needless_tellings, count, tellings)
            self.tuples(told)
            self.assertEqual(list(told), sorted(set(told)))
            for number, (low, high, least, most) in enumerate(tellings):
                ways = least_ways(count, tellings[:number] + tellings[number + 1:])
                holds = -ways[high, low] >= fraction(least) and ways.get((low, high), 10 ** 9) <= fraction(most)
                self.assertEqual(number in told, holds)
            seen.add(len(told))
        self.assertGreater(len(seen), 3)

    def test_suspect_samples(self):
        self.assertEqual(suspect_tellings(3, CLASHING), (0, 1, 2))
        self.assertEqual(suspect_tellings(3, TELLINGS), (0, 1, 2))
        self.assertEqual(suspect_tellings(3, ()), ())
        self.assertEqual(suspect_tellings(1, (row(0, 1, -2, -1),)), (0,))
        self.assertEqual(suspect_tellings(1, (row(0, 1, -2, -1),) * 2), ())
        self.assertEqual(suspect_tellings(2, (row(0, 1, 1, 1), row(0, 1, 2, 2), row(0, 1, 2, 3))), (0,))

    def test_suspect_ones(self):
        seen = set()
        for count, tellings in some_tellings(8, 60, counts=(1, 2, 3)):
            told = self.takes_lists(suspect_tellings, count, tellings)
            self.tuples(told)
            for number in range(len(tellings)):
                others = tellings[:number] + tellings[number + 1:]
                self.assertEqual(number in told, not has_bad_ring(count, others))
            seen.add(len(told) == len(tellings))
        self.assertEqual(seen, {True, False})


class Together(Case):

    def test_stops_told_of_a_cart(self):
        # What the stops of a cart show, with a slack, lets its weights be, moved and turned about too.
        one = Cart([ratio(at) for at in (0, 3, 7, 12)], ONE)
        weights = (ratio(4), ratio(2), ratio(9), ratio(5))
        for cart, own in ((one, weights), (one.shifted(ratio("5/3")), weights), (one.mirrored(), weights[::-1]),
                          (one.coupled(Cart([ZERO]), ratio(6)), (*weights, ratio(3)))):
            for slack in (0, "1/2"):
                ties = [stop[:2] for stop in stops_of(cart, ratio(9))]
                showings = [ratio(sum_between(own, *tie)) for tie in ties]
                rows = tellings_of(len(cart), ties, showings, ratio(slack))
                self.assertTrue(fits(len(cart), rows, own))
                self.assertTrue(fits(len(cart), rows, fitting_weights(len(cart), rows)))
                for low, high in pairs(len(cart)):
                    told = sum_bounds(len(cart), rows, low, high)
                    self.assertLessEqual(fraction(told.least), sum_between(own, low, high))
                    self.assertTrue(told.most is None or fraction(told.most) >= sum_between(own, low, high))


    def test_carts_that_roll_over_a_plate(self):
        # What a plate on legs shows at each stop tells weights that the true ones are among.
        length, weights = 12, (ratio(4), ratio(2), ratio(9), ratio(5))
        places = [place(x, y) for x in (0, length) for y in (-1, 1)]
        for cart, own in ((Cart([ratio(at) for at in (0, 3, 7, 15)], ratio("1/2")), weights),
                          (Cart([ratio(at) for at in (0, 8, 12, 15)], ratio("1/2")).mirrored().shifted(ratio(2)), weights)):
            for factors in ((2, 2, 2, 2), (1, 2, 3, 2), (1, "11/10", "9/10", 1)):
                scale = Plain(places, [ratio(factor) for factor in factors])
                sizes = [fraction(factor) for factor in scale.factors]
                rows = []
                for low, high, middle in stops_of(cart, ratio(length)):
                    loads = [(own[axle], (plus(middle, cart.axles[axle]), ZERO)) for axle in range(low, high)]
                    told = range_of(scale, loads)
                    rows.append((low, high, ratio(fraction(told.least) / max(sizes)), ratio(fraction(told.greatest) / min(sizes))))
                    there = centre_of(loads)
                    total = sum_between(own, low, high)
                    self.assertEqual(fraction(told.least), total * fraction(lower_at(scale, there)))
                    self.assertEqual(fraction(told.greatest), total * fraction(upper_at(scale, there)))
                self.assertGreater(len(rows), 3)
                self.assertTrue(fits(4, rows, own))
                for low, high in pairs(4):
                    told = sum_bounds(4, rows, low, high)
                    self.assertLessEqual(fraction(told.least), sum_between(own, low, high))
                    if told.most is not None:
                        self.assertGreaterEqual(fraction(told.most), sum_between(own, low, high))
                    if factors == (2, 2, 2, 2) and sure_axles(4, [row[:2] for row in rows]) == (0, 1, 2, 3):
                        self.assertEqual((told.least, told.most), (ratio(sum_between(own, low, high)),) * 2)


class Equality(Case):

    def test_equality(self):
        self.told_apart(NoCart((("most", 0),)), {"ring": (("most", 1),)})
        self.told_apart(SumBounds(ZERO, ONE, (("least", 0),), (("most", 0),)), {
            "least": ONE, "most": None, "least_trail": (), "most_trail": None})
        self.unlike(NoCart(()), SumBounds((), (), (), ()))


if __name__ == "__main__":
    unittest.main()
