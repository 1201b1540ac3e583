"""Points 10.8 to 10.10: choices of edits that mend a weighing, and edits that spoil it again."""

import random
import unittest
from itertools import combinations

from tests.helper import Case, NOT_SEQUENCES, NOT_WHOLE, place, ratio
from tests.test_wishes import granted, some_wish
from tests.weighed import LOADS, ONE, OWN, ZERO, on_plain, on_scale, plain_with, some_edit, weighings
from wherelaid.edits import Weighing, check_edits, weighing_after
from wherelaid.errors import BadEdit, BadWish
from wherelaid.even import Uneven
from wherelaid.laying import Own, Tipping
from wherelaid.mends import Mends, Spoiler, find_mends, find_spoilers, mends_fault
from wherelaid.scaletext import read_scale, scale_text
from wherelaid.settled import settled_of
from wherelaid.wishes import Broken, broken_fault, broken_wish


def choices_of(many):
    return [choice for size in range(many + 1) for choice in combinations(range(many), size)]


def behind(one, pool, choice):
    return weighing_after(one, [pool[index] for index in choice])


def is_good(one, pool, choice, wishes):
    after = behind(one, pool, choice)
    return all(granted(after, wish) for wish in wishes)


def by_the_words(one, pool, wishes):
    """The least choices, and the ones that are not good and have no good part, in order."""
    good = [choice for choice in choices_of(len(pool)) if is_good(one, pool, choice, wishes)]
    least = [choice for choice in good if not any(set(other) < set(choice) for other in good)]
    losses = [choice for choice in choices_of(len(pool))
              if choice not in good and not any(set(other) <= set(choice) for other in good)]
    return least, losses


# Factors 1, 2, 4, 2: either the leg 2 or both legs 1 and 3 may be mended.
BENT = Weighing(plain_with(1, 2, 4, 2), OWN, ())
POOL = (("factor", 2, ratio(3)), ("factor", 1, ratio("5/2")), ("factor", 3, ratio("5/2")), ("own", ratio(40)))
SETTLED = (("settled",),)


def some_pools(seed, rounds=1):
    """Triples (weighing, pool, wishes)."""
    lot = random.Random(seed)
    for number in range(rounds):
        for _, one in weighings(seed + number):
            pool = []
            while len(pool) < lot.choice((1, 3, 4, 5)):
                edit = some_edit(one, lot)
                try:
                    check_edits(one, [*pool, edit])
                    pool.append(edit)
                except BadEdit:
                    pass
            yield one, tuple(pool[:5]), tuple(some_wish(one, lot) for _ in range(lot.choice((1, 1, 2))))


class Finding(Case):

    def check(self, one, pool, wishes):
        told = self.takes_lists(find_mends, one, pool, wishes)
        self.assertIs(type(told), Mends)
        least, losses = by_the_words(one, pool, wishes)
        self.tuples(told.least)
        self.assertEqual(told.least, tuple(least))
        self.assertIs(type(told.losses), tuple)
        self.assertEqual([choice for choice, _ in told.losses], losses)
        for choice, broken in told.losses:
            self.tuples(choice)
            self.assertEqual(broken, broken_wish(behind(one, pool, choice), wishes))
        self.assertEqual(told.needed, tuple(k for k in range(len(pool)) if least and all(k in choice for choice in least)))
        self.assertIsNone(mends_fault(one, pool, wishes, told))
        spoilers = self.takes_lists(find_spoilers, one, pool, wishes)
        self.assertIs(type(spoilers), tuple)
        want = []
        for choice in least:
            for added in range(len(pool)):
                with_it = tuple(sorted({*choice, added}))
                if added not in choice and not is_good(one, pool, with_it, wishes):
                    want.append((choice, added, with_it))
        self.assertEqual([(spoiler.choice, spoiler.added) for spoiler in spoilers], [row[:2] for row in want])
        for spoiler, (_, _, with_it) in zip(spoilers, want):
            self.assertIs(type(spoiler), Spoiler)
            self.tuples(spoiler.choice)
            self.assertEqual(spoiler.broken, broken_wish(behind(one, pool, with_it), wishes))
        return told

    def test_samples(self):
        told = self.check(BENT, POOL, SETTLED)
        self.assertEqual(told.least, ((0,), (1, 2)))
        self.assertEqual([choice for choice, _ in told.losses], [(), (1,), (2,), (3,), (1, 3), (2, 3)])
        self.assertEqual(told.losses[0][1], Broken(0, settled_of(BENT.scale)))
        self.assertEqual(told.needed, ())
        spoilers = find_spoilers(BENT, POOL, SETTLED)
        self.assertEqual([(spoiler.choice, spoiler.added) for spoiler in spoilers], [((0,), 1), ((0,), 2), ((1, 2), 0)])
        self.assertEqual(self.check(BENT, POOL[1:], SETTLED).needed, (0, 1))
        self.assertEqual(find_spoilers(BENT, POOL[1:], SETTLED), ())

    def test_nothing_to_mend_and_nothing_that_mends(self):
        flat = Weighing(plain_with(1, 2, 3, 2), OWN, ())
        told = self.check(flat, (("factor", 0, ratio(5)),), SETTLED)
        self.assertEqual(told, Mends(((),), ()))
        self.assertEqual(told.needed, ())
        self.assertEqual(find_spoilers(flat, (("factor", 0, ratio(5)),), SETTLED)[0].added, 0)
        told = self.check(BENT, POOL[3:], SETTLED)
        self.assertEqual((told.least, told.needed), ((), ()))
        self.assertEqual([choice for choice, _ in told.losses], [(), (0,)])
        self.assertEqual(find_spoilers(BENT, POOL[3:], SETTLED), ())

    def test_later_edits_count(self):
        # The later one of two edits of one thing counts, so that the first one alone mends.
        pool = (("factor", 2, ratio(3)), ("factor", 2, ratio(9)))
        told = self.check(BENT, pool, SETTLED)
        self.assertEqual(told.least, ((0,),))
        self.assertEqual([spoiler.added for spoiler in find_spoilers(BENT, pool, SETTLED)], [1])
        turned = self.check(BENT, pool[::-1], SETTLED)
        self.assertEqual(turned.least, ((1,),))
        self.assertEqual(find_spoilers(BENT, pool[::-1], SETTLED), ())

    def test_any_order(self):
        one = on_plain(((ratio(30), place(5, 1)), (ratio(8), place(2, 3))))
        pool = (("own", ratio(20)), ("weight", 0, ratio(15)), ("weight", 1, ZERO), ("load", (ONE, place(2, 1))), ("own", ratio(12)))
        told = self.check(one, pool, (("any order",),))
        self.assertTrue(told.least)
        self.assertTrue(find_spoilers(one, pool, (("any order",),)))

    def test_all_choices_of_many_pools(self):
        kinds = {}
        for one, pool, wishes in some_pools(1, 2):
            told = self.check(one, pool, wishes)
            kind = (min(len(told.least), 2), bool(told.losses), bool(told.needed))
            kinds[kind] = kinds.get(kind, 0) + 1
        self.assertGreater(len(kinds), 3, kinds)

    def test_only_nothing_mends(self):
        # Loads and own weights grant no wish about factors; further loads no order.
        lot = random.Random(7)
        found = [0, 0]
        for name, one in weighings(5):
            weights = [("load", (ONE, place(1, 1))), ("own", ratio(5))]
            weights += [("weight", number, ratio(lot.choice((0, 4)))) for number in range(min(3, len(one.loads)))]
            weights = weights if len(one.loads) < 7 else weights[1:]
            wish = some_wish(one, lot)
            while wish[0] in ("any order", "told within"):
                wish = some_wish(one, lot)
            rows = [(weights, (wish,))]
            if len(one.loads) < 6:
                rows.append(([("load", (ratio(3), place(k, 1))) for k in range(2)], (("any order",),)))
            for pool, wishes in rows:
                least = find_mends(one, pool, wishes).least
                self.assertIn(least, ((), ((),)))
                found[bool(least)] += 1
        self.assertGreater(min(found), 10, found)

    def test_less_loads_spoil_no_order(self):
        for one in (on_plain(), on_plain(LOADS[:2]), on_plain(((ratio(30), place(5, 1)), (ratio(8), place(2, 3))))):
            pool = [("own", ratio(30))] + [("weight", number, ratio(1)) for number in range(len(one.loads))]
            self.check(one, pool, (("any order",),))
            self.assertEqual(find_spoilers(one, pool, (("any order",),)), ())

    def test_mended_texts(self):
        for choice in find_mends(BENT, POOL, SETTLED).least:
            after = behind(BENT, POOL, choice)
            back, loads = read_scale(scale_text(after.scale, after.loads))
            self.assertIsNone(broken_wish(Weighing(back, OWN, loads), SETTLED))

    def test_refusals(self):
        calls = (find_mends, find_spoilers, lambda *args: mends_fault(*args, None))
        for call in calls:
            for thing in NOT_SEQUENCES + ((), [], (("own", ONE),) * 6, (("own", ONE),) * 41):
                self.refuses(BadEdit, (0, "pool"), call, BENT, thing, None)
            self.refuses(BadEdit, (1, "edit"), call, BENT, (POOL[0], ("arm", ("out", 0), ONE)), None)
            self.refuses(BadEdit, (0, "leg"), call, BENT, (("factor", 4, ONE), None), None)
            self.refuses(BadEdit, (1, "twice"), call, BENT, (("leg", 0, place(9, 9)), ("leg", 1, place(9, 9))), None)
            for wishes, index in ((None, 0), ((), 0), ((("even",), ("eve",)), 1), ((("always even", ()),), 0), ((("even",),) * 7, 0)):
                self.refuses(BadWish, (index,), call, BENT, POOL[:1], wishes)
        self.assertEqual(find_mends(BENT, POOL + POOL[:1], SETTLED).least, ((0,), (4,), (1, 2)))


class Judging(Case):

    def judge(self, least="right", losses="right"):
        """Judge the right Mends with these in the place of what it has."""
        right = self.right()
        return mends_fault(BENT, POOL, SETTLED, Mends(right.least if least == "right" else least,
                                                      right.losses if losses == "right" else losses))

    def right(self):
        return find_mends(BENT, POOL, SETTLED)

    def test_mends(self):
        self.assertIsNone(self.judge())
        losses = self.right().losses
        for thing in (None, 0, True, "mends", (), [], ((), ()), Mends, Spoiler((), 0, None), self.right().least):
            self.assertEqual(mends_fault(BENT, POOL, SETTLED, thing), "mends")
        for least in NOT_SEQUENCES + ([(0,), (1, 2)], (0,), ((0,), None), ((0,), [1, 2]), ((0,), (2, 1)), ((0,), (1, 1)), ((0,), (1, 4)),
                                      ((0,), (-1,)), ((1, 2), (0,)), ((0,), (0,)), ((False,), (1, 2)), ((0,), (1, True)), ((0, 3), (0, 1)),
                                      ((0,), ("1", 2)), ((0,), (None,)), "ab", ((0,), 1)):
            self.assertEqual(self.judge(least, ()), "mends", least)
        for thing in NOT_SEQUENCES + (list(losses), (None,), ((),), (((), None, None),), ([(), losses[0][1]],), ((losses[0][1], ()),),
                                      losses[::-1], (losses[0], losses[0]), (((0, 0), None),), (((4,), None),), ((list(()), None),),
                                      (((True,), None),), ((None, None),), (((1, 2), None), ((3,), None))):
            self.assertEqual(self.judge(losses=thing), "mends")
        for number in NOT_WHOLE:
            self.assertEqual(self.judge(((number,),), ()), "mends")

    def test_within(self):
        losses = self.right().losses
        for least in (((0,), (0, 1)), ((0,), (1, 2), (1, 2, 3)), ((), (0,)), ((0,), (0, 3), (1, 2))):
            self.assertEqual(self.judge(least, ()), "within")
        # A part of a choice of the losses, or one of them.
        self.assertEqual(self.judge(((0,), (1,)), losses), "within")
        self.assertEqual(self.judge(((0,), (3,), (1, 2)), losses), "within")
        self.assertEqual(self.judge(losses=(*losses[:4], ((0, 3), None), *losses[4:])), "within")
        self.assertEqual(self.judge(((),)), "within")

    def test_lacking(self):
        losses = self.right().losses
        for at in range(len(losses)):
            self.assertEqual(self.judge(losses=losses[:at] + losses[at + 1:]), "lacking")
        self.assertEqual(self.judge(((0,),)), "lacking")
        self.assertEqual(self.judge(((1, 2),)), "lacking")
        self.assertEqual(self.judge((), ()), "lacking")
        self.assertEqual(self.judge(((0, 3), (1, 2)), losses), "lacking")

    def test_good(self):
        losses = self.right().losses
        self.assertEqual(self.judge(((),), ()), "good")
        # Not good, and still no part of a loss: (1, 3) and (2, 3) are told to be least.
        told = tuple(row for row in losses if row[0] not in ((1, 3), (2, 3)))
        self.assertEqual(self.judge(((0,), (1, 2), (1, 3), (2, 3)), told), "good")
        self.assertEqual(self.judge(((0,), (1, 2), (1, 3)), tuple(row for row in losses if row[0] != (1, 3))), "good")

    def test_broken(self):
        losses = self.right().losses
        for at, (choice, broken) in enumerate(losses):
            for thing in (None, 0, Broken(1, broken.why), Broken(0, None), Broken(0, Uneven(0, 1)), broken.why, Broken(True, broken.why)):
                self.assertEqual(self.judge(losses=(*losses[:at], (choice, thing), *losses[at + 1:])), "broken")
            # What the why holds is not judged.
            other = Broken(0, settled_of(plain_with(1, 2, 9, 2)))
            self.assertIsNone(self.judge(losses=(*losses[:at], (choice, other), *losses[at + 1:])))

    def test_a_good_choice_among_the_losses(self):
        # All choices told to be losses: the good ones are not broken.
        told = tuple((choice, Broken(0, settled_of(BENT.scale))) for choice in choices_of(4))
        self.assertEqual(self.judge((), told), "broken")

    def test_a_wish_that_is_not_the_first(self):
        wishes = (("settled",), ("even",))
        right = find_mends(BENT, POOL, wishes)
        told = tuple((choice, Broken(1, Uneven(0, 1))) for choice, _ in right.losses)
        self.assertNotEqual(told, right.losses)
        self.assertIsNone(mends_fault(BENT, POOL, wishes, Mends(right.least, told)))

    def test_two_things_at_once(self):
        losses = self.right().losses
        # A wrong least choice comes before wrong losses, a part before what is lacking, this before what is not good.
        self.assertEqual(self.judge(((1, 2), (0,)), ((None, None),)), "mends")
        self.assertEqual(self.judge(((0,), (0, 1)), losses[:1]), "within")
        self.assertEqual(self.judge(((3,),), ()), "lacking")
        broken = ((losses[0][0], None), *losses[1:4])
        self.assertEqual(self.judge(((0,), (1, 2), (1, 3), (2, 3)), broken), "good")

    def test_others_changed(self):
        kinds = {}
        for one, pool, wishes in some_pools(3):
            right = find_mends(one, pool, wishes)
            for least, losses in ((right.least[1:], right.losses), (right.least, right.losses[1:]), (right.least, right.losses[:-1]),
                                  ((), tuple((choice, Broken(0, None)) for choice in choices_of(len(pool)))), (((),), ())):
                told = mends_fault(one, pool, wishes, Mends(least, losses))
                if (least, losses) == (right.least, right.losses):
                    self.assertIsNone(told)
                else:
                    self.assertIn(told, ("lacking", "good", "broken"))
                kinds[told] = kinds.get(told, 0) + 1
        self.assertEqual(set(kinds), {None, "lacking", "good", "broken"})


class Equality(Case):

    def test_equality(self):
        self.told_apart(Mends(((0,),), (((), None),)), {"least": (), "losses": ()})
        self.told_apart(Spoiler((0,), 1, Broken(0, 1)), {"choice": (), "added": 2, "broken": Broken(0, 2)})

    def test_needed(self):
        for least, want in (((), ()), (((),), ()), (((0, 1), (1, 2)), (1,)), (((0,), (1,)), ()), (((1, 3),), (1, 3)),
                            (((0, 2, 4), (1, 2, 4)), (2, 4))):
            self.assertEqual(Mends(least, ()).needed, want)
        self.assertEqual(Own(ONE, place(0, 0)).weight, ONE)

    def test_what_is_broken_is_judged_by_the_wish(self):
        one = on_plain()
        told = find_mends(one, (("weight", 1, ZERO), ("weight", 2, ZERO)), (("any order",),))
        self.assertEqual(told.least, ((0,),))
        self.assertIs(type(told.losses[0][1].why), Tipping)
        for choice, broken in told.losses:
            after = behind(one, (("weight", 1, ZERO), ("weight", 2, ZERO)), choice)
            self.assertIsNone(broken_fault(after, (("any order",),), broken))
        self.assertEqual(find_mends(on_scale(), (("own", ONE),), SETTLED).least, ((),))


if __name__ == "__main__":
    unittest.main()
