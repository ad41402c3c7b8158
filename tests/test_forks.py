"""Forks: groups of targets asked one behind the other, and what is joined of their answers."""

import itertools
import random
import unittest

from ringingcalls.errors import NoGroups, NoRank, NoTarget
from ringingcalls.forks import Fork
from tests.helper import EIGHT, ODD, do, done, spoil

A, B, C, D = ("device", "ann"), ("device", "bob"), ("person", "zoe", "hub"), ("device", "dan")
BEGIN, UP = ("begin",), ("give_up",)
EIGHT_TARGETS = tuple(("device", name) for name in EIGHT)
NOT_TARGETS = ODD + [0, 600, "ann", ("device",), ("device", "Ann"), ("device", "ann", "hub"), ["device", "ann"], ("ann",)]
NOT_RANKS = ODD + [0, 299, 700, 10 ** 29, "486", (486,), [486], "ann"]


def ask(*targets):
    """What is told where these are asked."""
    return [("ask", target) for target in targets]


def stop(*targets):
    """What is told where these are stopped."""
    return [("stop", target) for target in targets]


def rings(target):
    """The deed that it rings at a target."""
    return ("rings", target)


def taken(target):
    """The deed that a target took it."""
    return ("taken", target)


def no(target, rank=486):
    """The deed that a target answered no."""
    return ("no", target, rank)


def late(target):
    """The deed that nothing came of a target."""
    return ("late", target)


def begun(*groups):
    """A fork of these groups that began."""
    return done(Fork(groups), [BEGIN])


def told(fork):
    """All that a fork tells when it is asked."""
    return (fork.asked(), fork.ends(), fork.is_over(), fork.best())


class Played(unittest.TestCase):
    def play(self, fork, *rows):
        """Rows of a deed, what it tells, then targets asked, ends, whether it is over, and the best rank behind it."""
        for deed, what, asked, ends, over, best in rows:
            self.assertEqual(do(fork, deed), what, deed)
            self.assertEqual(told(fork), (asked, ends, over, best), deed)
            self.assertIs(fork.is_over(), over)


class Begins(Played):
    def test_a_new_one(self):
        for groups in (((A,),), ((A, B), (C,))):
            self.assertEqual(told(Fork(groups)), ([], {}, False, None))
            self.assertEqual(told(Fork(groups=groups)), ([], {}, False, None))

    def test_the_first_group_is_asked_in_order_once(self):
        self.play(
            Fork(((B, A), (C,))),
            (BEGIN, ask(B, A), [B, A], {}, False, None),
            (BEGIN, [], [B, A], {}, False, None),
        )

    def test_eight_targets_and_many_groups(self):
        self.assertEqual(Fork((EIGHT_TARGETS,)).begin(), ask(*EIGHT_TARGETS))
        names = ["".join(signs) for signs in itertools.product("abcdefgh", repeat=2)]
        groups = tuple((("device", name),) for name in names)
        fork = Fork(groups)
        fork.begin()
        for name, after in zip(names, names[1:]):
            self.assertEqual(fork.no(("device", name), 404), ask(("device", after)))
        self.assertEqual(fork.no(("device", names[-1]), 404), [("no", 404)])

    def test_given_up_ahead_of_that(self):
        self.play(
            Fork(((A, B), (C,))),
            (UP, [], [], {}, False, None),
            (UP, [], [], {}, False, None),
            (BEGIN, [("no", 487)], [], {}, True, None),
            (BEGIN, [], [], {}, True, None),
            (UP, [], [], {}, True, None),
        )

    def test_begun_again_at_any_time(self):
        for deeds in ([], [rings(A)], [no(A)], [taken(A)], [UP], [no(A), no(B)], [no(A), no(B), no(C)]):
            fork = done(begun((A, B), (C,)), deeds)
            like = fork.twin()
            self.assertEqual(fork.begin(), [])
            self.assertEqual(fork, like)


class Rings(Played):
    def test_told_on_as_long_as_the_target_has_no_end(self):
        self.play(
            begun((A, B), (C,)),
            (rings(A), [("rings", A)], [A, B], {}, False, None),
            (rings(A), [("rings", A)], [A, B], {}, False, None),
            (rings(B), [("rings", B)], [A, B], {}, False, None),
            (no(A), [], [A, B], {A: 486}, False, 486),
            (rings(A), [], [A, B], {A: 486}, False, 486),
            (taken(B), [("taken", B)], [A, B], {A: 486, B: "taken"}, True, 486),
            (rings(B), [], [A, B], {A: 486, B: "taken"}, True, 486),
        )

    def test_told_on_behind_a_stop(self):
        for deed in (UP, taken(B), no(B, 600)):
            fork = done(begun((A, B),), [deed])
            self.assertEqual(fork.rings(A), [("rings", A)])
            self.assertFalse(fork.is_over())


class Takings(Played):
    def test_the_first_stops_the_others_and_a_further_one_is_told_on(self):
        self.play(
            begun((A, B, C), (D,)),
            (taken(B), [("taken", B)] + stop(A, C), [A, B, C], {B: "taken"}, False, None),
            (taken(B), [("taken", B)], [A, B, C], {B: "taken"}, False, None),
            (no(B), [], [A, B, C], {B: "taken"}, False, None),
            (late(B), [], [A, B, C], {B: "taken"}, False, None),
            (taken(A), [("taken", A)], [A, B, C], {B: "taken", A: "taken"}, False, None),
            (no(C, 487), [], [A, B, C], {B: "taken", A: "taken", C: 487}, True, 487),
            (taken(A), [("taken", A)], [A, B, C], {B: "taken", A: "taken", C: 487}, True, 487),
            (taken(C), [], [A, B, C], {B: "taken", A: "taken", C: 487}, True, 487),
        )

    def test_one_target_alone(self):
        self.play(
            begun((A,), (B,)),
            (taken(A), [("taken", A)], [A], {A: "taken"}, True, None),
            (taken(A), [("taken", A)], [A], {A: "taken"}, True, None),
            (rings(A), [], [A], {A: "taken"}, True, None),
        )

    def test_in_a_later_group(self):
        self.play(
            begun((A,), (B, C), (D,)),
            (no(A), ask(B, C), [A, B, C], {A: 486}, False, 486),
            (taken(C), [("taken", C)] + stop(B), [A, B, C], {A: 486, C: "taken"}, False, 486),
            (late(B), [], [A, B, C], {A: 486, C: "taken", B: 408}, True, 408),
        )

    def test_a_no_of_600_behind_a_taking_stops_nothing_again(self):
        self.play(
            begun((A, B, C),),
            (taken(A), [("taken", A)] + stop(B, C), [A, B, C], {A: "taken"}, False, None),
            (no(B, 600), [], [A, B, C], {A: "taken", B: 600}, False, 600),
            (no(C, 603), [], [A, B, C], {A: "taken", B: 600, C: 603}, True, 600),
        )

    def test_behind_giving_up_and_behind_a_no_of_600(self):
        self.play(
            begun((A, B),),
            (UP, stop(A, B), [A, B], {}, False, None),
            (taken(A), [("taken", A)], [A, B], {A: "taken"}, False, None),
            (no(B, 487), [], [A, B], {A: "taken", B: 487}, True, 487),
        )
        self.play(
            begun((A, B, C),),
            (no(A, 600), stop(B, C), [A, B, C], {A: 600}, False, 600),
            (taken(B), [("taken", B)], [A, B, C], {A: 600, B: "taken"}, False, 600),
            (no(C, 487), [], [A, B, C], {A: 600, B: "taken", C: 487}, True, 600),
        )

    def test_behind_a_no_of_the_same_target_it_is_nothing(self):
        for deed in (no(A), no(A, 600), late(A)):
            fork = done(begun((A, B),), [deed])
            like = fork.twin()
            self.assertEqual(fork.taken(A), [])
            self.assertEqual(fork, like)


class Noes(Played):
    def test_groups_one_behind_the_other(self):
        self.play(
            begun((A, B), (C,), (D,)),
            (no(B, 599), [], [A, B], {B: 599}, False, 599),
            (no(A, 300), ask(C), [A, B, C], {B: 599, A: 300}, False, 300),
            (no(A, 600), [], [A, B, C], {B: 599, A: 300}, False, 300),
            (late(C), ask(D), [A, B, C, D], {B: 599, A: 300, C: 408}, False, 300),
            (no(D, 404), [("no", 300)], [A, B, C, D], {B: 599, A: 300, C: 408, D: 404}, True, 300),
            (no(D, 404), [], [A, B, C, D], {B: 599, A: 300, C: 408, D: 404}, True, 300),
        )

    def test_the_bounds_of_the_first_half(self):
        for rank in (300, 408, 599):
            self.assertEqual(begun((A, B), (C,)).no(A, rank), [])
            self.assertEqual(done(begun((A, B), (C,)), [no(B)]).no(A, rank), ask(C))
            self.assertEqual(begun((A,)).no(A, rank), [("no", rank)])

    def test_from_600_on_it_shuts(self):
        for rank in (600, 601, 699):
            self.play(
                begun((A, B, C), (D,)),
                (no(B), [], [A, B, C], {B: 486}, False, 486),
                (no(C, rank), stop(A), [A, B, C], {B: 486, C: rank}, False, rank),
                (no(A, 487), [("no", rank)], [A, B, C], {B: 486, C: rank, A: 487}, True, rank),
            )
            self.play(
                begun((A,), (B,)),
                (no(A, rank), [("no", rank)], [A], {A: rank}, True, rank),
            )

    def test_the_least_from_600_on(self):
        for first, second in ((603, 600), (600, 603), (699, 601)):
            fork = begun((A, B, C),)
            self.assertEqual(fork.no(A, first), stop(B, C))
            self.assertEqual(fork.no(B, second), [])
            self.assertEqual(fork.best(), min(first, second))
            self.assertEqual(fork.no(C, 300), [("no", min(first, second))])

    def test_the_least_of_all_else(self):
        for ranks in itertools.permutations((300, 408, 599)):
            fork = begun((A,), (B, C))
            what = [fork.no(target, rank) for target, rank in zip((A, B, C), ranks)]
            self.assertEqual(what, [ask(B, C), [], [("no", 300)]])

    def test_late_is_a_no_of_408(self):
        fork, like = begun((A, B), (C,)), begun((A, B), (C,))
        for target in (B, A, C):
            self.assertEqual(fork.late(target), like.no(target, 408))
            self.assertEqual(fork, like)
        self.assertEqual(fork.ends(), {A: 408, B: 408, C: 408})

    def test_by_names(self):
        fork = begun((A, B), (C, D))
        self.assertEqual(fork.rings(target=A), [("rings", A)])
        self.assertEqual(fork.no(rank=404, target=A), [])
        self.assertEqual(fork.late(target=B), ask(C, D))
        self.assertEqual(fork.taken(target=C), [("taken", C)] + stop(D))


class GivenUp(Played):
    def test_what_has_no_end_is_stopped_once(self):
        self.play(
            begun((A, B, C), (D,)),
            (no(B, 404), [], [A, B, C], {B: 404}, False, 404),
            (UP, stop(A, C), [A, B, C], {B: 404}, False, 404),
            (UP, [], [A, B, C], {B: 404}, False, 404),
            (no(A, 487), [], [A, B, C], {B: 404, A: 487}, False, 404),
            (late(C), [("no", 404)], [A, B, C], {B: 404, A: 487, C: 408}, True, 404),
            (UP, [], [A, B, C], {B: 404, A: 487, C: 408}, True, 404),
        )

    def test_behind_a_taking_or_a_no_of_600_nothing(self):
        for deed in (taken(A), no(A, 600)):
            fork = done(begun((A, B),), [deed])
            like = fork.twin()
            self.assertEqual(fork.give_up(), [])
            self.assertEqual(fork, like)

    def test_a_no_of_600_behind_it_stops_nothing_again(self):
        fork = begun((A, B),)
        self.assertEqual([fork.give_up(), fork.no(A, 600), fork.no(B, 487)], [stop(A, B), [], [("no", 600)]])


class Drawn(unittest.TestCase):
    def deeds(self, chance, fork):
        """A drawn deed that is not refused."""
        asked = fork.asked()
        if not asked or chance.random() < 0.05:
            return chance.choice((BEGIN, UP)) if chance.random() < 0.3 else BEGIN
        target = chance.choice(asked)
        rank = chance.choice((300, 404, 487, 599, 600, 699)) if chance.random() < 0.3 else chance.randrange(300, 600)
        return chance.choice((rings(target), no(target, rank), no(target, rank), late(target), taken(target)))

    def look(self, groups, log, fork):
        """The log of deeds and what they told, looked over as a whole."""
        what = [row for deed, rows in log for row in rows]
        asked = [row[1] for row in what if row[0] == "ask"]
        stopped = [row[1] for row in what if row[0] == "stop"]
        noes = [row[1] for row in what if row[0] == "no"]
        ends = fork.ends()
        self.assertEqual(asked, fork.asked())
        self.assertEqual(asked, [target for group in groups for target in group][:len(asked)])
        self.assertEqual(len(stopped), len(set(stopped)))
        self.assertLessEqual(set(stopped), set(asked))
        self.assertLessEqual(len(noes), 1)
        ranks = [end for end in ends.values() if end != "taken"]
        high = [rank for rank in ranks if rank >= 600]
        self.assertEqual(fork.best(), min(high or ranks, default=None))
        if noes:
            self.assertTrue(fork.is_over())
            self.assertNotIn("taken", ends.values())
            self.assertEqual(noes[0], fork.best() if asked else 487)
        shut = "taken" in ends.values() or bool(high) or UP in [deed for deed, rows in log]
        if fork.is_over():
            self.assertEqual(set(ends), set(asked))
            self.assertEqual(len(noes), "taken" not in ends.values())
            if not shut:
                self.assertEqual(len(asked), sum(map(len, groups)))
        if not shut:
            self.assertEqual(stopped, [])
        return shut

    def test_each_weaving(self):
        chance = random.Random(9)
        for run in range(700):
            names = iter(("device", name) for name in "abcdefghijklmnopqrstuvwxyz")
            groups = tuple(tuple(next(names) for one in range(chance.randrange(1, 6))) for two in range(chance.randrange(1, 5)))
            fork, log, shut = Fork(groups), [], False
            for step in range(60):
                deed = self.deeds(chance, fork)
                over, before, ends = fork.is_over(), fork.asked(), fork.ends()
                what = do(fork, deed)
                log.append((deed, what))
                if over:
                    self.assertEqual(what, [deed] if deed[0] == "taken" and ends[deed[1]] == "taken" else [])
                if shut:
                    self.assertEqual(fork.asked(), before)
                    self.assertNotIn("stop", [row[0] for row in what])
                now = self.look(groups, log, fork)
                if now and not shut and before:
                    left = [target for target in before if target not in fork.ends()]
                    self.assertEqual([row[1] for row in what if row[0] == "stop"], left)
                shut = now


class Told(unittest.TestCase):
    def test_what_was_told_is_the_askers_own(self):
        for deeds in ([BEGIN], [BEGIN, no(A)], [BEGIN, no(A), no(B)], [BEGIN, taken(A)], [BEGIN, UP], [UP, BEGIN]):
            fork, like = Fork(((A, B), (C,))), Fork(((A, B), (C,)))
            for deed in deeds:
                spoil(do(fork, deed))
                do(like, deed)
                spoil(fork.asked())
                spoil(fork.ends())
                self.assertEqual(told(fork), told(like))
                self.assertEqual(fork, like)

    def test_what_comes_later_changes_nothing_told(self):
        fork = begun((A, B), (C,))
        asked, ends = fork.asked(), fork.ends()
        done(fork, [no(A), no(B), taken(C)])
        self.assertEqual((asked, ends), ([A, B], {}))

    def test_what_is_asked_changes_nothing(self):
        fork = done(Fork(((A, B), (C,))), [BEGIN, no(A)])
        like = fork.twin()
        for again in range(3):
            told(fork)
            fork.twin()
        self.assertEqual(fork, like)


class Alike(unittest.TestCase):
    def unlike(self, first, second):
        self.assertFalse(first == second)
        self.assertFalse(second == first)
        self.assertTrue(first != second)

    def test_a_twin_goes_on_by_itself(self):
        ways = [[], [UP], [BEGIN], [BEGIN, no(A)], [BEGIN, no(A), no(B)], [BEGIN, taken(A)], [BEGIN, UP], [UP, BEGIN]]
        for way in ways:
            fork = done(Fork(((A, B), (C,))), way)
            for deed in [BEGIN, UP] + ([rings(B), no(B), no(B, 600), late(B), taken(B)] if fork.asked() else []):
                first, twin = fork.twin(), fork.twin()
                self.assertEqual(told(twin), told(fork))
                self.assertEqual(twin, fork)
                self.assertIsInstance(twin, Fork)
                what = do(twin, deed)
                self.assertEqual(first, fork)
                self.assertEqual(told(first), told(fork))
                self.assertEqual(do(first, deed), what)
                self.assertEqual(first, twin)

    def test_groups(self):
        self.unlike(Fork(((A, B),)), Fork(((B, A),)))
        self.unlike(Fork(((A,), (B,))), Fork(((A, B),)))
        self.assertEqual(Fork(((A,), (B,))), Fork(((A,), (B,))))

    def test_targets_asked(self):
        self.unlike(done(begun((A,), (B,)), [no(A)]), begun((A,), (B,)))
        # Both are over with the same end; only the one that was not shut asked on.
        self.unlike(done(begun((A, B),), [UP, no(A), no(B)]), done(Fork(((A, B),)), [UP, BEGIN]))

    def test_ends(self):
        self.unlike(done(begun((A, B),), [no(A)]), begun((A, B),))
        self.unlike(done(begun((A, B),), [no(A)]), done(begun((A, B),), [no(A, 404)]))
        self.unlike(done(begun((A, B),), [no(A)]), done(begun((A, B),), [no(B)]))
        self.unlike(done(begun((A,)), [no(A)]), done(begun((A,)), [taken(A)]))
        self.assertEqual(done(begun((A, B),), [no(A), no(B)]), done(begun((A, B),), [no(B), no(A)]))

    def test_whether_it_began(self):
        self.unlike(Fork(((A,),)), begun((A,)))
        self.unlike(done(Fork(((A,),)), [UP]), done(Fork(((A,),)), [UP, BEGIN]))

    def test_whether_it_was_shut_as_long_as_it_is_not_over(self):
        self.unlike(done(begun((A, B),), [UP]), begun((A, B),))
        self.unlike(done(Fork(((A, B),)), [UP]), Fork(((A, B),)))
        self.assertEqual(done(begun((A, B),), [UP, taken(A)]), done(begun((A, B),), [taken(A)]))
        self.assertEqual(done(begun((A, B),), [UP, no(A), no(B)]), done(begun((A, B),), [no(A), no(B)]))

    def test_rings_leave_nothing(self):
        self.assertEqual(done(begun((A, B),), [rings(A)]), begun((A, B),))

    def test_things_of_other_kinds(self):
        fork = begun((A, B),)
        for thing in ODD + [((A, B),), told(fork), Fork, [A, B]]:
            self.assertIs(fork == thing, False)
            self.assertIs(fork != thing, True)


class Refusals(unittest.TestCase):
    def refused(self, kind, thing, deed, *arguments, **named):
        """The very thing is refused so."""
        with self.assertRaises(kind) as caught:
            deed(*arguments, **named)
        self.assertIs(caught.exception.thing, thing)

    def test_no_groups(self):
        nine = (EIGHT_TARGETS + (("device", "i"),),)
        things = ODD + [
            (), ((),), ((A,), ()), nine, (A,), A, [(A,)], ([A],), ((A, A),), ((A,), (A,)), ((A, B), (C, A)), ((A, None),),
            ((A, ("device", "Ann")),), ((A, ["device", "bob"]),), ((A,), None), ({A: B},), (((A,),),), "ann", 0,
        ]
        for thing in things:
            self.refused(NoGroups, thing, Fork, thing)
            self.refused(NoGroups, thing, Fork, groups=thing)

    def test_no_target(self):
        for deeds in ([], [UP], [BEGIN], [BEGIN, no(A)], [BEGIN, no(A), no(B)], [BEGIN, taken(A)], [UP, BEGIN]):
            fork = done(Fork(((A, B), (C,), (D,))), deeds)
            like, before = fork.twin(), told(fork)
            for thing in NOT_TARGETS + [target for target in (A, B, C, D) if target not in fork.asked()]:
                self.refused(NoTarget, thing, fork.rings, thing)
                self.refused(NoTarget, thing, fork.taken, thing)
                self.refused(NoTarget, thing, fork.late, thing)
                self.refused(NoTarget, thing, fork.no, thing, 486)
            self.assertEqual(fork, like)
            self.assertEqual(told(fork), before)

    def test_no_rank(self):
        for deeds in ([], [no(A)], [taken(A)], [no(A), no(B)]):
            fork = done(begun((A, B),), deeds)
            like = fork.twin()
            for thing in NOT_RANKS:
                self.refused(NoRank, thing, fork.no, A, thing)
                self.refused(NoRank, thing, fork.no, target=A, rank=thing)
            self.assertEqual(fork, like)

    def test_no_target_goes_ahead_of_no_rank(self):
        fork = begun((A,), (B,))
        for thing in NOT_RANKS:
            self.refused(NoTarget, B, fork.no, B, thing)
            self.refused(NoTarget, thing, fork.no, thing, thing)
