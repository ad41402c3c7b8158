"""Devices: calls, takings, rings, stops, letters within talks, and the order of all that is told."""

import unittest

from ringingcalls.devices import Device
from ringingcalls.errors import Busy, NoCall, NoLetter, NoName, NoNumber, NoRank, NoRing, NoTalk
from ringingcalls.talks import Talk
from tests.helper import (
    CALL, EIGHT, NO_LETTERS, ODD, RULES, Played, answer, ask, do, done, hear, held, ring, shown, spoil, sure,
)

BEAT = ("beat",)
CALLED = ("call", "zoe", "hub", "hello")
RINGS = hear(answer("hub", "ann", 0, "rings", "hub", ()))
TALK = (CALL, "bob", 0)
NOT_NAMES = ODD + [0, ("ann",), "ann "]


def taken(device="bob", number=0, path=("hub",), asking=0):
    """The deed that ann hears a taking from the house."""
    return hear(answer("hub", "ann", asking, "taken", device, number, path))


def no(rank=486, asking=0):
    """The deed that ann hears a no from the house."""
    return hear(answer("hub", "ann", asking, "no", rank))


def ann(*deeds, without=()):
    """ann, behind the deeds."""
    return done(Device("ann", without=without), deeds)


def bob(*deeds, without=()):
    """bob, to whom ann's ring came by the house, behind the deeds."""
    return done(Device("bob", without=without), [hear(ring("hub", "bob", 3, path=("hub",), hops=8))] + list(deeds))


def took(*deeds, without=()):
    """bob, who took that ring, behind the deeds."""
    return bob(("take", CALL), *deeds, without=without)


def talked(*deeds, without=()):
    """bob, whose taking was held, behind the deeds."""
    return took(hear(held("hub", "bob", TALK)), *deeds, without=without)


def called(*deeds, without=()):
    """ann, who called and whose talk with bob stands, behind the deeds."""
    return ann(CALLED, taken(), *deeds, without=without)


def beats(many):
    """So many beats."""
    return [BEAT] * many


class Calls(Played):
    def test_a_new_one_has_nothing(self):
        for device in (Device("ann"), Device(name="ann"), Device("ann", without=())):
            self.assertEqual(shown(device), ("ann", 0, [], []))
            self.assertEqual((device.calls(), device.rings(), device.talks(), device.beat()), ([], [], {}, []))

    def test_a_call_is_a_ring_of_nine_hops_by_no_house(self):
        device = ann()
        letter = ring("ann", "hub", 0)
        self.assertEqual(device.call(text="hello", house="hub", person="zoe"), [letter])
        self.assertEqual(shown(device), ("ann", 2, [(0, letter, "calls")], []))
        self.assertEqual(device.calls(), [0])

    def test_askings_are_numbered_as_they_are_sent_and_calls_by_themselves(self):
        self.play(
            ann(),
            (("here", "yve", "inn", 9, 999), [ask("ann", "inn", 0, "here", "yve", 9, 999)]),
            (CALLED, [ring("ann", "hub", 1)]),
            (("here", "yve", "inn", 0, 0), [ask("ann", "inn", 2, "here", "yve", 0, 0)]),
            (("call", "ann", "inn", "warm"), [ring("ann", "inn", 3, ("ann", 1), "ann", text="warm")]),
        )

    def test_sent_anew_and_forgotten(self):
        device = ann(CALLED)
        letter = [ring("ann", "hub", 0)]
        self.assertEqual(self.beaten(device, 15), {1: letter, 3: letter, 7: letter, 15: letter})
        self.assertEqual((device.calls(), device.kept()), ([0], 2))
        self.assertEqual(device.beat(), [])
        self.assertEqual((device.calls(), device.kept(), device.askers()), ([], 0, []))
        self.assertEqual(device.call("zoe", "hub", "hello"), [ring("ann", "hub", 1, ("ann", 1))])

    def test_a_no_is_made_sure_and_the_call_kept_for_sixteen_beats(self):
        device = ann(CALLED, RINGS)
        self.play(device, (no(), [sure("ann", "hub", 0)]), (no(), [sure("ann", "hub", 0)]), (taken(), []))
        self.assertEqual(self.beaten(device, 15), {})
        self.assertEqual(device.calls(), [0])
        device.beat()
        self.assertEqual((device.calls(), device.talks(), device.kept()), ([], {}, 0))

    def test_here_is_sent_anew_until_it_is_answered(self):
        device = ann(("here", "zoe", "hub", 5, 60))
        letter = [ask("ann", "hub", 0, "here", "zoe", 5, 60)]
        self.assertEqual(self.beaten(device, 8), {1: letter, 3: letter, 7: letter})
        self.play(device, (hear(answer("hub", "ann", 0, "no", 503)), []))
        self.assertEqual(self.beaten(device, 3), {})
        self.assertEqual((device.askers()[0][2], device.kept()), ("ends", 1))
        device.beat()
        self.assertEqual(device.kept(), 0)
        self.assertEqual(list(self.beaten(ann(("here", "zoe", "hub", 5, 60)), 40)), [1, 3, 7, 11, 15])

    def test_here_by_names(self):
        told = ann().here(beats=1, weight=2, house="hub", person="zoe")
        self.assertEqual(told, [ask("ann", "hub", 0, "here", "zoe", 2, 1)])

    def test_rings_for_forty_beats_then_a_stop(self):
        device = ann(CALLED, RINGS)
        self.assertEqual(self.beaten(device, 39), {})
        self.play(device, (RINGS, []))
        stop = ask("ann", "hub", 1, "stop", 0)
        # The stop's own Asker has its first beat in the next one.
        self.assertEqual(self.beaten(device, 43), {40: [stop], 41: [stop], 43: [stop]})


class GivenUp(Played):
    def test_ahead_of_rings(self):
        device = ann(CALLED)
        self.play(
            device,
            (("give_up", 0), []),
            (("give_up", 0), []),
            (RINGS, [ask("ann", "hub", 1, "stop", 0)]),
            (RINGS, []),
            (hear(answer("hub", "ann", 1, "done")), []),
            (no(487), [sure("ann", "hub", 0)]),
        )
        self.assertEqual([state for number, letter, state in device.askers()], ["ends", "ends"])

    def test_behind_rings(self):
        device = ann(CALLED, RINGS)
        self.assertEqual(device.give_up(number=0), [ask("ann", "hub", 1, "stop", 0)])
        self.play(device, (("give_up", 0), []))
        self.assertEqual([state for number, letter, state in device.askers()], ["waits", "calls"])
        done(device, beats(16))
        self.assertEqual((device.calls(), device.askers()), ([], []))

    def test_against_a_taking(self):
        device = ann(CALLED, RINGS, ("give_up", 0))
        self.play(
            device, (taken(), [held("ann", "hub", TALK, "bob"), ask("ann", "hub", 2, "bye", TALK, 1, ("bob",))]),
        )
        self.assertEqual({talk: device.talks()[talk].state() for talk in device.talks()}, {TALK: "ends"})
        self.play(device, (hear(answer("hub", "ann", 2, "done")), []))
        self.assertEqual(device.talks()[TALK].state(), "over")
        device.beat()
        self.assertEqual(device.talks(), {})

    def test_ahead_of_rings_against_a_taking_at_once(self):
        self.play(
            ann(CALLED, ("give_up", 0)),
            (taken(), [held("ann", "hub", TALK, "bob"), ask("ann", "hub", 1, "bye", TALK, 1, ("bob",))]),
        )

    def test_behind_a_taking_the_talk_stands_on(self):
        device = called()
        self.play(device, (("give_up", 0), []), (taken(), [held("ann", "hub", TALK, "bob")]))
        self.assertEqual(device.talks()[TALK].state(), "stands")

    def test_behind_a_no_nothing_is_done(self):
        self.play(ann(CALLED, no()), (("give_up", 0), []), (RINGS, []))

    def test_which_of_two(self):
        device = ann(CALLED, ("call", "yve", "inn", "warm"), hear(answer("inn", "ann", 1, "rings", "inn", ())))
        self.play(device, (("give_up", 1), [ask("ann", "inn", 2, "stop", 1)]))
        self.assertEqual(device.calls(), [0, 1])

    def test_refused(self):
        for number in ODD + [1, 2, "ann", ("ann", 0)]:
            self.refused(NoCall, ann(CALLED), ("give_up", number), number)
        self.refused(NoCall, ann(), ("give_up", 0), 0)
        self.refused(NoCall, ann(CALLED, *beats(16)), ("give_up", 0), 0)
        two = ann(CALLED, CALLED)
        self.refused(NoCall, two, ("give_up", True), True)
        self.refused(NoCall, two, ("give_up", False), False)
        self.assertEqual(two.give_up(1), [])


class Takings(Played):
    def test_the_first_one_stands_and_is_held(self):
        for path, first, way in (((), "bob", ()), (("hub",), "hub", ("bob",)), (("hub", "inn"), "hub", ("inn", "bob"))):
            device = ann(CALLED)
            self.play(device, (taken(path=path), [held("ann", first, TALK, *way)]))
            self.assertEqual(device.talks(), {TALK: Talk("asker", "hello")})
            # Its call and its Asker; a talk that stands isn't counted.
            self.assertEqual((device.calls(), device.kept()), ([0], 2))

    def test_a_second_and_a_third_one_are_ended_at_once(self):
        cat, again = (CALL, "cat", 4), (CALL, "bob", 1)
        device = called()
        self.play(
            device,
            (
                taken("cat", 4, ("hub", "inn")),
                [held("ann", "hub", cat, "inn", "cat"), ask("ann", "hub", 1, "bye", cat, 1, ("inn", "cat"))],
            ),
            (taken("bob", 1, ()), [held("ann", "bob", again), ask("ann", "bob", 2, "bye", again, 1, ())]),
        )
        states = {talk: device.talks()[talk].state() for talk in device.talks()}
        self.assertEqual(states, {TALK: "stands", cat: "ends", again: "ends"})

    def test_the_same_one_again_is_held_again_by_the_first_path(self):
        device = called()
        self.play(
            device,
            (taken(), [held("ann", "hub", TALK, "bob")]),
            (taken(path=("inn", "den")), [held("ann", "hub", TALK, "bob")]),
            (("end", TALK), [ask("ann", "hub", 1, "bye", TALK, 1, ("bob",))]),
            (taken(), [held("ann", "hub", TALK, "bob")]),
            (hear(answer("hub", "ann", 1, "done")), []),
            (taken(), [held("ann", "hub", TALK, "bob")]),
            (BEAT, []),
            (taken(), []),
        )
        self.assertEqual(device.talks(), {})

    def test_a_second_one_is_ended_where_the_first_ones_talk_is_gone(self):
        device = called(("end", TALK), hear(answer("hub", "ann", 1, "done")), BEAT)
        cat = (CALL, "cat", 0)
        self.play(
            device,
            (taken("cat"), [held("ann", "hub", cat, "cat"), ask("ann", "hub", 2, "bye", cat, 1, ("cat",))]),
            (taken("cat"), [held("ann", "hub", cat, "cat")]),
        )

    def test_one_of_its_own_name_is_nothing_and_not_known(self):
        device = ann(CALLED, taken("ann"))
        self.assertEqual(device.talks(), {})
        self.play(device, (taken("ann"), []), (taken(), [held("ann", "hub", TALK, "bob")]), (taken("ann", 7), []))
        self.assertEqual(device.talks()[TALK].state(), "stands")

    def test_behind_the_calls_time_nothing(self):
        device = called(*beats(15))
        self.play(device, (taken("cat", 2), [held("ann", "hub", (CALL, "cat", 2), "cat"),
                                             ask("ann", "hub", 1, "bye", (CALL, "cat", 2), 1, ("cat",))]))
        device.beat()
        self.assertEqual(device.calls(), [])
        self.play(device, (taken(), []), (taken("dan"), []))

    def test_two_calls_go_by_themselves(self):
        device = ann(CALLED, ("call", "yve", "hub", "warm"))
        other = (("ann", 1), "bob", 0)
        self.play(
            device,
            (taken(asking=1), [held("ann", "hub", other, "bob")]),
            (taken(), [held("ann", "hub", TALK, "bob")]),
        )
        self.assertEqual(device.talks(), {other: Talk("asker", "warm"), TALK: Talk("asker", "hello")})

    def test_by_another_one_than_was_asked(self):
        device = ann(CALLED)
        like = device.twin()
        self.play(device, (hear(answer("inn", "ann", 0, "taken", "bob", 0, ())), []))
        self.assertEqual(device, like)


class Without(Played):
    def states(self, device):
        """The states of its talks."""
        return {talk: device.talks()[talk].state() for talk in device.talks()}

    def test_extra(self):
        cat = (CALL, "cat", 0)
        device = called(without=("extra",))
        self.play(device, (taken("cat"), [held("ann", "hub", cat, "cat")]))
        self.assertEqual(self.states(device), {TALK: "stands", cat: "stands"})
        device = called(("give_up", 0), without=("extra",))
        self.play(device, (taken("cat"), [held("ann", "hub", cat, "cat"), ask("ann", "hub", 1, "bye", cat, 1, ("cat",))]))

    def test_given(self):
        cat = (CALL, "cat", 0)
        device = ann(CALLED, ("give_up", 0), without=("given",))
        self.play(
            device,
            (taken(), [held("ann", "hub", TALK, "bob")]),
            (taken("cat"), [held("ann", "hub", cat, "cat"), ask("ann", "hub", 1, "bye", cat, 1, ("cat",))]),
        )
        self.assertEqual(self.states(device), {TALK: "stands", cat: "ends"})

    def test_both(self):
        device = ann(CALLED, ("give_up", 0), taken(), taken("cat"), without=("given", "extra"))
        self.assertEqual(set(self.states(device).values()), {"stands"})

    def test_the_other_rules_are_the_talks(self):
        for rule in RULES:
            rules = (rule,)
            self.assertEqual(called(without=rules).talks(), {TALK: Talk("asker", "hello", without=rules)}, rule)
            self.assertEqual(took(without=rules).talks(), {TALK: Talk("asked", "hello", without=rules)}, rule)

    def test_hold(self):
        self.assertEqual(self.states(took(*beats(60), without=("hold",))), {TALK: "waits"})
        self.assertEqual(self.states(took(*beats(16))), {TALK: "ends"})

    def test_refresh(self):
        self.assertEqual(self.states(talked(*beats(300), without=("refresh",))), {TALK: "stands"})
        self.assertEqual(self.states(talked(*beats(95))), {TALK: "stands"})
        self.assertEqual(self.states(talked(*beats(96))), {TALK: "ends"})

    def test_late(self):
        for end in ([], [hear(answer("hub", "ann", 1, "no", 408))]):
            deeds = [("change", TALK, "warm")] + end + beats(16)
            self.assertEqual(self.states(called(*deeds, without=("late",))), {TALK: "stands"})
            self.assertEqual(self.states(called(*deeds)), {})

    def test_glare(self):
        crossed = hear(ask("hub", "ann", 5, "again", TALK, 1, (), "cool"))
        for without, what in (((), ("no", 491)), (("glare",), ("done",))):
            self.play(
                called(("change", TALK, "warm"), without=without), (crossed, [answer("ann", "hub", 5, *what)]),
            )

    def test_number(self):
        old = hear(ask("hub", "ann", 6, "again", TALK, 1, (), "cool"))
        for without, what in (((), ("no", 500)), (("number",), ("done",))):
            device = called(hear(ask("hub", "ann", 5, "again", TALK, 1, (), "warm")), without=without)
            self.play(device, (old, [answer("ann", "hub", 6, *what)]))

    def test_rules_left_out_in_any_order(self):
        self.assertEqual(Device("ann", without=("glare", "late")), Device("ann", without=("late", "glare")))
        for rule in RULES:
            self.assertNotEqual(Device("ann"), Device("ann", without=(rule,)))
            self.assertEqual(ann(without=(rule,)).twin(), ann(without=(rule,)))


class RingsCome(Played):
    def test_it_rings_with_its_name_and_the_path(self):
        for path in ((), ("hub",), EIGHT):
            device = Device("bob")
            self.play(
                device, (hear(ring("hub", "bob", 7, path=path)), [answer("bob", "hub", 7, "rings", "bob", path)]),
            )
            self.assertEqual(device.rings(), [CALL])
            self.assertEqual(shown(device), ("bob", 2, [], [("hub", 7, "goes")]))

    def test_the_ask_that_comes_again_is_answered_again(self):
        letter = ring("hub", "bob", 3, path=("hub",), hops=8)
        rings = answer("bob", "hub", 3, "rings", "bob", ("hub",))
        refused = answer("bob", "hub", 3, "no", 486)
        self.play(
            bob(),
            (hear(letter), [rings]), (hear(letter), [rings]), (("refuse", CALL, 486), [refused]), (hear(letter), [refused]),
            (hear(sure("hub", "bob", 3)), []), (hear(letter), []),
        )
        self.play(took(), (hear(letter), []))

    def test_taken(self):
        device = bob()
        self.assertEqual(device.take(call=CALL), [answer("bob", "hub", 3, "taken", "bob", 0, ("hub",))])
        self.assertEqual(device.talks(), {TALK: Talk("asked", "hello")})
        # The Asked, and the Talk that waits.
        self.assertEqual((device.rings(), device.kept(), device.askeds()), ([], 2, [("hub", 3, "took")]))

    def test_takings_are_numbered(self):
        device = took(hear(ring("hub", "bob", 4, ("cat", 2), path=(), text="warm")))
        device.refuse(("cat", 2), 486)
        done(device, [hear(ring("hub", "bob", 5, ("cat", 3), path=("inn",)))])
        self.play(device, (("take", ("cat", 3)), [answer("bob", "hub", 5, "taken", "bob", 1, ("inn",))]))
        self.assertEqual(sorted(device.talks()), [TALK, (("cat", 3), "bob", 1)])

    def test_taken_is_said_until_it_is_held(self):
        said = [answer("bob", "hub", 3, "taken", "bob", 0, ("hub",))]
        device = took()
        told = self.beaten(device, 16)
        bye = ask("bob", "hub", 0, "bye", TALK, 1, ("ann",))
        self.assertEqual(told, {1: said, 3: said, 7: said, 11: said, 15: said, 16: [bye]})
        self.assertEqual(device.askeds(), [])
        device = took(BEAT)
        self.play(device, (hear(held("hub", "bob", TALK)), []))
        self.assertEqual(self.beaten(device, 40), {})
        self.assertEqual(device.talks()[TALK].state(), "stands")
        self.assertEqual(device.kept(), 0)

    def test_refused(self):
        device = bob()
        self.assertEqual(device.refuse(rank=603, call=CALL), [answer("bob", "hub", 3, "no", 603)])
        self.assertEqual((device.rings(), device.talks(), device.kept()), ([], {}, 1))
        said = [answer("bob", "hub", 3, "no", 603)]
        self.assertEqual(self.beaten(device, 40), {beat: said for beat in (1, 3, 7, 11, 15)})
        self.assertEqual(device.kept(), 0)

    def test_left_alone_for_thirty_beats(self):
        device = bob()
        said = [answer("bob", "hub", 3, "no", 480)]
        self.assertEqual(self.beaten(device, 29), {})
        self.assertEqual(device.rings(), [CALL])
        self.assertEqual(self.beaten(device, 17), {1: said, 2: said, 4: said, 8: said, 12: said, 16: said})
        self.assertEqual((device.rings(), device.kept()), ([], 0))

    def test_of_its_own_call(self):
        device = ann(CALLED)
        self.play(device, (hear(ring("hub", "ann", 0)), [answer("ann", "hub", 0, "no", 482)]))
        self.play(device, (hear(ring("hub", "ann", 1, ("ann", 77))), [answer("ann", "hub", 1, "no", 482)]))
        self.assertEqual((device.rings(), device.kept()), ([], 4))

    def test_that_came_already(self):
        loop = [answer("bob", "inn", 0, "no", 482)]
        new = hear(ring("inn", "bob", 0))
        for deeds in ([], [("refuse", CALL, 486)], [("take", CALL)], beats(30), [("refuse", CALL, 486)] + beats(15)):
            self.play(bob(*deeds), (new, loop))
        rings = [answer("bob", "inn", 0, "rings", "bob", ())]
        for deeds in (
            [("refuse", CALL, 486)] + beats(16), [("refuse", CALL, 486), hear(sure("hub", "bob", 3))] + beats(4),
        ):
            self.play(bob(*deeds), (new, rings))

    def test_one_refused_so_is_not_kept_as_one_that_came(self):
        device = bob(hear(ring("inn", "bob", 0)), ("refuse", CALL, 486), hear(sure("hub", "bob", 3)), *beats(4))
        self.assertEqual(device.askeds(), [("inn", 0, "told")])
        self.play(device, (hear(ring("den", "bob", 0)), [answer("bob", "den", 0, "rings", "bob", ())]))

    def test_of_which_it_has_a_talk(self):
        device = talked(*beats(20))
        self.assertEqual((device.askeds(), device.talks()[TALK].state()), ([], "stands"))
        self.play(device, (hear(ring("hub", "bob", 9)), [answer("bob", "hub", 9, "no", 482)]))
        self.play(
            device, (hear(ring("hub", "bob", 10, ("ann", 1))), [answer("bob", "hub", 10, "rings", "bob", ())]),
        )
        ended = took(*beats(17))
        self.assertEqual(ended.talks()[TALK].state(), "ends")
        self.play(ended, (hear(ring("hub", "bob", 9)), [answer("bob", "hub", 9, "no", 482)]))

    def test_of_which_its_talk_is_gone(self):
        device = took(("end", TALK), hear(answer("hub", "bob", 0, "done")), *beats(16))
        self.assertEqual(device.talks(), {})
        self.play(device, (hear(ring("hub", "bob", 9)), [answer("bob", "hub", 9, "rings", "bob", ())]))
        self.play(device, (("take", CALL), [answer("bob", "hub", 9, "taken", "bob", 1, ())]))

    def test_no_ring(self):
        for device in (bob(("take", CALL)), bob(("refuse", CALL, 486)), bob(*beats(30)), bob(*beats(60)), Device("bob")):
            self.refused(NoRing, device, ("take", CALL), CALL)
            self.refused(NoRing, device, ("refuse", CALL, 486), CALL)
        stopped = bob(hear(ask("hub", "bob", 4, "stop", 3)))
        self.refused(NoRing, stopped, ("take", CALL), CALL)
        for thing in ODD + [0, ("ann", 1), ("ann", False), ("bob", 0), ["ann", 0], ("ann", 0, 0)]:
            self.refused(NoRing, bob(), ("take", thing), thing)
            self.refused(NoRing, bob(), ("refuse", thing, "no rank"), thing)

    def test_no_rank(self):
        for rank in ODD + [0, 299, 700, "486", (486,)]:
            self.refused(NoRank, bob(), ("refuse", CALL, rank), rank)
        for rank in (300, 699):
            self.assertEqual(bob().refuse(CALL, rank), [answer("bob", "hub", 3, "no", rank)])


class Stops(Played):
    def stop(self, number=3, asking=4, sender="hub"):
        """The deed that a stop comes."""
        return hear(ask(sender, "bob", asking, "stop", number))

    def test_of_a_ring_without_an_end(self):
        device = bob()
        self.play(device, (self.stop(), [answer("bob", "hub", 4, "done"), answer("bob", "hub", 3, "no", 487)]))
        self.assertEqual(device.rings(), [])
        self.play(device, (self.stop(), [answer("bob", "hub", 4, "done")]))
        self.play(device, (self.stop(asking=5), [answer("bob", "hub", 5, "done")]))

    def test_of_one_told_or_took(self):
        for device in (bob(("refuse", CALL, 486)), took(), bob(("refuse", CALL, 486), *beats(15)), took(*beats(15))):
            self.play(device, (self.stop(), [answer("bob", "hub", 4, "done")]))
        self.assertEqual(took(self.stop()).talks()[TALK].state(), "waits")

    def test_of_one_told_that_is_not_kept_as_one_that_came(self):
        device = bob(hear(ring("hub", "bob", 7)))
        self.play(device, (self.stop(7, 8), [answer("bob", "hub", 8, "done")]))
        self.assertEqual(device.rings(), [CALL])

    def test_of_none(self):
        none = [answer("bob", "hub", 4, "no", 481)]
        for device, number in (
            (bob(), 2), (bob(), 4), (Device("bob"), 3), (bob(("refuse", CALL, 486), hear(sure("hub", "bob", 3))), 3),
            (bob(("refuse", CALL, 486), *beats(16)), 3), (took(*beats(16)), 3),
        ):
            self.play(device, (self.stop(number), none))
        self.play(bob(), (self.stop(sender="inn"), [answer("bob", "inn", 4, "no", 481)]))

    def test_of_an_asking_that_is_no_ring(self):
        device = bob(hear(ask("hub", "bob", 5, "bye", TALK, 1, ())))
        self.assertIn(("hub", 5, "told"), device.askeds())
        self.play(device, (self.stop(5), [answer("bob", "hub", 4, "no", 481)]))


class Within(Played):
    def test_held_by_a_way_is_nothing(self):
        device = took(hear(held("hub", "bob", TALK, "ann")))
        self.assertEqual(device.talks()[TALK].state(), "waits")
        self.play(device, (hear(held("hub", "bob", (CALL, "bob", 1))), []), (hear(held("hub", "bob", TALK)), []))
        self.assertEqual(device.talks()[TALK].state(), "stands")

    def test_bye_and_again(self):
        device = talked()
        self.play(
            device,
            (hear(ask("hub", "bob", 5, "again", TALK, 1, (), "warm")), [answer("bob", "hub", 5, "done")]),
            (hear(ask("hub", "bob", 5, "again", TALK, 1, (), "warm")), [answer("bob", "hub", 5, "done")]),
            (hear(ask("hub", "bob", 6, "again", TALK, 1, (), "cool")), [answer("bob", "hub", 6, "no", 500)]),
            (hear(ask("hub", "bob", 7, "again", TALK, 2, ("ann",), "cool")), [answer("bob", "hub", 7, "no", 481)]),
            (hear(ask("hub", "bob", 8, "bye", TALK, 2, ("ann",))), [answer("bob", "hub", 8, "no", 481)]),
        )
        self.assertEqual(device.talks()[TALK].changes(), ["hello", "warm"])
        self.play(
            device,
            (hear(ask("hub", "bob", 9, "bye", TALK, 2, ())), [answer("bob", "hub", 9, "done")]),
            (hear(ask("hub", "bob", 10, "bye", TALK, 3, ())), [answer("bob", "hub", 10, "no", 481)]),
            (BEAT, []),
            (hear(ask("hub", "bob", 9, "bye", TALK, 2, ())), [answer("bob", "hub", 9, "done")]),
        )
        self.assertEqual(device.talks(), {})

    def test_of_no_talk(self):
        for talk in ((CALL, "bob", 1), (("ann", 1), "bob", 0), (CALL, "cat", 0)):
            device = talked()
            self.play(
                device,
                (hear(ask("hub", "bob", 5, "again", talk, 1, (), "warm")), [answer("bob", "hub", 5, "no", 481)]),
                (hear(ask("hub", "bob", 6, "bye", talk, 1, ())), [answer("bob", "hub", 6, "no", 481)]),
            )
            self.assertEqual(device.talks()[TALK].numbers(), (0, 0))

    def test_what_a_waiting_one_hears_holds_it(self):
        device = took(hear(ask("hub", "bob", 5, "again", TALK, 1, (), "warm")))
        self.assertEqual(device.talks()[TALK].state(), "stands")

    def test_changed(self):
        device = called()
        again = ask("ann", "hub", 1, "again", TALK, 1, ("bob",), "warm")
        self.assertEqual(device.change(text="warm", talk=TALK), [again])
        self.assertEqual(self.beaten(device, 8), {beat: [again] for beat in (1, 3, 7)})
        self.play(device, (hear(answer("hub", "ann", 1, "done")), []))
        self.assertEqual(device.talks()[TALK].changes(), ["hello", "warm"])
        self.play(device, (("change", TALK, "cool"), [ask("ann", "hub", 2, "again", TALK, 2, ("bob",), "cool")]))
        self.play(device, (hear(answer("hub", "ann", 2, "no", 488)), []))
        self.assertEqual(device.talks()[TALK].changes(), ["hello", "warm"])
        self.assertEqual(device.talks()[TALK].under_way(), None)

    def test_changes_that_cross_come_again(self):
        for device, pause, route in ((called(), 5, ("hub", "bob")), (talked(), 2, ("hub", "ann"))):
            number = device.change(TALK, "warm")[0][3]
            name = device.name()
            self.play(
                device,
                (hear(ask("hub", name, 9, "again", TALK, 1, (), "cool")), [answer(name, "hub", 9, "no", 491)]),
                (hear(answer("hub", name, number, "no", 491)), []),
            )
            told = self.beaten(device, pause)
            again = ask(name, "hub", number + 1, "again", TALK, 2, route[1:], "warm")
            self.assertEqual({beat: [x for x in told[beat] if x[0] == "ask"] for beat in told}.get(pause), [again])

    def test_an_answer_of_481_or_408_or_none_ends_it(self):
        for rank in (481, 408):
            device = called(("change", TALK, "warm"), hear(answer("hub", "ann", 1, "no", rank)))
            self.assertEqual(device.talks()[TALK].state(), "over")
        device = called(("change", TALK, "warm"), *beats(15))
        self.assertEqual(device.talks()[TALK].state(), "stands")
        device.beat()
        self.assertEqual(device.talks(), {})

    def test_ended(self):
        for answered in ([hear(answer("hub", "ann", 1, "done"))], [hear(answer("hub", "ann", 1, "no", 500))], beats(15)):
            device = called()
            bye = ask("ann", "hub", 1, "bye", TALK, 1, ("bob",))
            self.assertEqual(device.end(talk=TALK), [bye])
            self.assertEqual((device.talks()[TALK].state(), device.kept()), ("ends", 4))
            done(device, answered + [BEAT])
            self.assertEqual(device.talks(), {})

    def test_ended_while_it_waits(self):
        device = took()
        self.play(device, (("end", TALK), [ask("bob", "hub", 0, "bye", TALK, 1, ("ann",))]))
        self.assertEqual(self.beaten(device, 3), {beat: [ask("bob", "hub", 0, "bye", TALK, 1, ("ann",))] for beat in (1, 3)})

    def test_refreshed(self):
        device = called()
        again = ask("ann", "hub", 1, "again", TALK, 1, ("bob",), "hello")
        self.assertEqual(self.beaten(device, 32), {32: [again]})
        # An asking of kind again isn't counted as kept, at either end.
        self.assertEqual((len(device.askers()), device.kept()), (1, 0))
        other = talked(*beats(16), hear(ask("hub", "bob", 5, "again", TALK, 1, (), "hello")))
        self.assertEqual((len(other.askeds()), other.kept()), (1, 0))

    def test_paths_of_up_to_eight_houses(self):
        for many in range(9):
            path = EIGHT[:many]
            there, back = path + ("bob",), path[::-1] + ("ann",)
            device = ann(CALLED)
            self.play(
                device,
                (taken(path=path), [held("ann", there[0], TALK, *there[1:])]),
                (("change", TALK, "warm"), [ask("ann", there[0], 1, "again", TALK, 1, there[1:], "warm")]),
                (("end", TALK), [ask("ann", there[0], 2, "bye", TALK, 2, there[1:])]),
            )
            device = done(Device("bob"), [hear(ring("hub", "bob", 0, path=path))])
            self.play(
                device,
                (("take", CALL), [answer("bob", "hub", 0, "taken", "bob", 0, path)]),
                (hear(held(back[0], "bob", TALK)), []),
                (("change", TALK, "warm"), [ask("bob", back[0], 0, "again", TALK, 1, back[1:], "warm")]),
                (("end", TALK), [ask("bob", back[0], 1, "bye", TALK, 2, back[1:])]),
            )

    def test_no_talk(self):
        for thing in ODD + [0, (CALL, "bob", 1), (CALL, "bob", False), ("ann", "bob", 0), [CALL, "bob", 0], CALL]:
            self.refused(NoTalk, called(), ("end", thing), thing)
            self.refused(NoTalk, called(), ("change", thing, "Not a name"), thing)
        over = called(hear(ask("hub", "ann", 0, "bye", TALK, 1, ())))
        for device in (over, called(("end", TALK)), Device("ann")):
            self.refused(NoTalk, device, ("end", TALK), TALK)
            self.refused(NoTalk, device, ("change", TALK, "warm"), TALK)
        self.refused(NoTalk, took(), ("change", TALK, "warm"), TALK)

    def test_no_name_then_busy(self):
        busy = called(("change", TALK, "warm"))
        for text in NOT_NAMES:
            self.refused(NoName, called(), ("change", TALK, text), text)
            self.refused(NoName, busy, ("change", TALK, text), text)
        for device in (busy, called(("change", TALK, "warm"), hear(answer("hub", "ann", 1, "no", 491)))):
            like = device.twin()
            with self.assertRaises(Busy):
                device.change(TALK, "cool")
            self.assertEqual(device, like)


class Letters(Played):
    def test_an_ask_of_another_kind(self):
        device = bob()
        self.play(device, (hear(ask("cat", "bob", 0, "here", "zoe", 5, 60)), [answer("bob", "cat", 0, "no", 405)]))
        self.assertEqual(device.askeds(), [("cat", 0, "told"), ("hub", 3, "goes")])

    def test_no_letter(self):
        for letter in NO_LETTERS + [ring("hub", "bob", 0), sure("bob", "cat", 0), answer("hub", "bob", 0, "done")]:
            self.refused(NoLetter, ann(CALLED), hear(letter), letter)
        # Of number 1 there is an asking, but True is no number.
        both = ann(CALLED, CALLED)
        for letter in (answer("hub", "ann", True, "rings", "hub", ()), sure("hub", "ann", True)):
            self.refused(NoLetter, both, hear(letter), letter)
        self.assertEqual(Device("bob").hear(letter=sure("hub", "bob", 0)), [])

    def test_answers_that_meet_no_machine_or_are_none_of_its_sort_are_nothing(self):
        for device, letter in (
            (ann(CALLED), answer("hub", "ann", 1, "rings", "hub", ())),
            (ann(CALLED), answer("hub", "ann", 1, "done")),
            (ann(CALLED), answer("inn", "ann", 0, "rings", "hub", ())),
            (ann(CALLED), answer("inn", "ann", 0, "no", 486)),
            (ann(CALLED), answer("hub", "ann", 0, "done")),
            (ann(("here", "zoe", "hub", 1, 1)), answer("hub", "ann", 0, "rings", "hub", ())),
            (ann(("here", "zoe", "hub", 1, 1)), answer("hub", "ann", 0, "taken", "bob", 0, ())),
            (called(("end", TALK)), answer("bob", "ann", 1, "done")),
            (called(("change", TALK, "warm")), answer("bob", "ann", 1, "done")),
            (ann(CALLED, *beats(16)), answer("hub", "ann", 0, "no", 486)),
        ):
            like = device.twin()
            self.assertEqual(device.hear(letter), [], letter)
            self.assertEqual(device, like, letter)

    def test_sures_that_meet_no_machine_are_nothing(self):
        refused = bob(("refuse", CALL, 486))
        for letter in (sure("hub", "bob", 4), sure("inn", "bob", 3)):
            like = refused.twin()
            self.assertEqual(refused.hear(letter), [])
            self.assertEqual(refused, like)
        self.assertEqual(refused.hear(sure("hub", "bob", 3)), [])
        self.assertEqual(refused.askeds(), [("hub", 3, "quiet")])
        other = bob(hear(ask("hub", "bob", 4, "bye", TALK, 1, ())), hear(sure("hub", "bob", 4)))
        self.assertIn(("hub", 4, "told"), other.askeds())

    def test_answers_to_a_stop_are_nothing_more(self):
        device = ann(CALLED, RINGS, ("give_up", 0))
        self.play(device, (hear(answer("hub", "ann", 1, "no", 481)), []))
        self.assertEqual([state for number, letter, state in device.askers()], ["waits", "ends"])


class Beats(Played):
    def test_the_order_of_the_letters_of_a_beat(self):
        talk = (("cat", 1), "ann", 0)
        device = ann(
            hear(ring("inn", "ann", 8, ("dan", 0))), hear(ring("hub", "ann", 9, ("dan", 1))),
            hear(ring("hub", "ann", 10, ("dan", 2))), *beats(29),
            hear(ring("hub", "ann", 2, ("cat", 0))), hear(ring("den", "ann", 7, ("cat", 1))), ("take", ("cat", 1)),
            ("refuse", ("cat", 0), 486), CALLED, ("here", "zoe", "hub", 5, 60), ("call", "yve", "inn", "warm"),
        )
        self.assertEqual(device.beat(), [
            ring("ann", "hub", 0), ask("ann", "hub", 1, "here", "zoe", 5, 60),
            ring("ann", "inn", 2, ("ann", 1), "yve", text="warm"),
            answer("ann", "hub", 2, "no", 486),
            answer("ann", "hub", 9, "no", 480), answer("ann", "hub", 10, "no", 480), answer("ann", "inn", 8, "no", 480),
            answer("ann", "den", 7, "taken", "ann", 0, ()),
        ])
        self.assertEqual(device.talks()[talk].state(), "waits")

    def test_askeds_by_from_and_number(self):
        device = Device("bob")
        for sender, number in (("inn", 2), ("hub", 10), ("hub", 9), ("den", 30)):
            done(device, [hear(ring(sender, "bob", number, ("cat", number))), ("refuse", ("cat", number), 486)])
        told = [(letter[2], letter[3]) for letter in device.beat()]
        self.assertEqual(told, [("den", 30), ("hub", 9), ("hub", 10), ("inn", 2)])
        self.assertEqual([row[:2] for row in device.askeds()], told)

    def test_askers_by_numbers(self):
        device = ann(*[("here", "zoe", "hub", 5, beats) for beats in range(12)])
        self.assertEqual([letter[3] for letter in device.beat()], list(range(12)))
        self.assertEqual([row[0] for row in device.askers()], list(range(12)))

    def test_talks_sorted(self):
        device = Device("bob")
        order = [("cat", 10), ("cat", 9), ("ann", 3), ("dan", 0)]
        for number, call in enumerate(order):
            done(device, [hear(ring("hub", "bob", number, call)), ("take", call)])
        told = [letter[4][2] for letter in device.beat()]
        self.assertEqual(told, [order.index(call) for call in sorted(order)])

    def test_what_comes_late_is_told_on_ahead_of_the_talks_beat(self):
        # Its change comes late at the very beat at which it would be refreshed.
        device = called(*beats(16), ("change", TALK, "warm"))
        self.assertEqual(list(self.beaten(device, 16)), [1, 3, 7, 11, 15])
        self.assertEqual(device.talks(), {})

    def test_a_talk_ends_at_the_beat_and_goes_at_its_end(self):
        device = called(("end", TALK), *beats(15))
        self.assertEqual(device.talks()[TALK].state(), "ends")
        device.beat()
        self.assertEqual((device.talks(), device.askers(), device.kept()), ({}, [], 0))

    def test_what_an_asker_tells_goes_ahead_of_what_comes_of_the_answer(self):
        device = ann(CALLED, ("give_up", 0))
        self.assertEqual(device.hear(answer("hub", "ann", 0, "rings", "hub", ())), [ask("ann", "hub", 1, "stop", 0)])


class Told(Played):
    def test_lists_and_dicts_are_the_askers_own(self):
        for make in (called, took, bob, ann):
            device = make(CALLED)
            like = device.twin()
            for thing in (device.calls(), device.rings(), device.talks(), device.askers(), device.askeds()):
                spoil(thing)
            for talk in device.talks().values():
                talk.end()
                spoil(talk.changes())
            self.assertEqual(device, like)
            for thing in (device.beat(), device.call("zoe", "hub", "hello")):
                spoil(thing)
            like.beat()
            like.call("zoe", "hub", "hello")
            self.assertEqual(device, like)

    def test_what_was_told_stays(self):
        device = took()
        talks, askeds, rings = device.talks(), device.askeds(), device.rings()
        done(device, beats(40))
        self.assertEqual((talks, askeds, rings), ({TALK: Talk("asked", "hello")}, [("hub", 3, "took")], []))

    def test_asked_is_nothing_done(self):
        device = called(hear(ring("hub", "ann", 8, ("cat", 0))))
        like = device.twin()
        shown(device), device.calls(), device.rings(), device.talks(), device.twin()
        self.assertEqual(device, like)

    def test_calls_rings_askers_and_askeds_are_sorted(self):
        device = ann(*[CALLED] * 11)
        self.assertEqual(device.calls(), list(range(11)))
        device = Device("bob")
        for number, call in enumerate([("dan", 1), ("cat", 10), ("cat", 9)]):
            device.hear(ring("hub", "bob", number, call))
        self.assertEqual(device.rings(), [("cat", 9), ("cat", 10), ("dan", 1)])


class Alike(Played):
    # Deeds of ann of which each, done behind the same ones, leaves something told that is unlike to all others.
    WAYS = (
        [], [CALLED], [CALLED, CALLED], [("call", "yve", "hub", "hello")], [CALLED, RINGS], [CALLED, BEAT],
        [CALLED, ("give_up", 0)], [CALLED, RINGS, ("give_up", 0)], [CALLED, taken()], [CALLED, taken(number=1)],
        [CALLED, taken(), ("end", TALK)], [CALLED, taken(), ("change", TALK, "warm")],
        [CALLED, taken(), ("change", TALK, "cool")], [CALLED, no()], [("here", "zoe", "hub", 5, 60)],
        [("here", "zoe", "hub", 5, 61)], [hear(ring("hub", "ann", 0, ("cat", 0)))],
        [hear(ring("hub", "ann", 0, ("cat", 1)))], [hear(ring("hub", "ann", 1, ("cat", 0)))],
        [hear(ring("inn", "ann", 0, ("cat", 0)))], [hear(ring("hub", "ann", 0, ("cat", 0))), ("take", ("cat", 0))],
        [hear(ring("hub", "ann", 0, ("cat", 0))), ("refuse", ("cat", 0), 486)],
        [hear(ask("hub", "ann", 0, "bye", TALK, 1, ()))], [hear(ask("hub", "ann", 0, "again", TALK, 1, (), "warm"))],
    )

    def test_those_that_did_the_same_alone(self):
        for first, ways in enumerate(self.WAYS):
            for second, others in enumerate(self.WAYS):
                self.assertEqual(ann(*ways) == ann(*others), first == second, (ways, others))

    def test_those_of_which_one_thing_told_is_unlike(self):
        warm, cool = [hear(ask("hub", "bob", 5, "again", TALK, 1, (), text)) for text in ("warm", "cool")]
        one, two = talked(warm, *beats(16)), talked(cool, *beats(16))
        self.assertEqual((shown(one), one.rings(), one.calls()), (shown(two), two.rings(), two.calls()))
        self.assertNotEqual(one.talks(), two.talks())
        self.assertNotEqual(one, two)
        one, two = bob(("refuse", CALL, 486)), bob(("refuse", CALL, 486), hear(sure("hub", "bob", 3)))
        self.assertNotEqual(one.askeds(), two.askeds())
        self.assertNotEqual(one, two)

    def test_those_that_go_on_unlike(self):
        here = ("here", "zoe", "hub", 5, 60)
        ended = [("take", CALL), ("end", TALK), hear(answer("hub", "bob", 0, "done")), *beats(16)]
        other = hear(ring("hub", "bob", 3, path=("hub",), hops=8, text="warm"))
        path = hear(ring("hub", "bob", 3, path=("inn",), hops=8))
        gone = [("end", TALK), hear(answer("hub", "ann", 1, "done")), *beats(5)]
        cat = [("end", (CALL, "cat", 0)), hear(answer("hub", "ann", 1, "done")), *beats(5)]
        taking = [("take", CALL), hear(held("hub", "bob", TALK)), *beats(16)]
        for one, two in (
            # What is asked next; which call is next; which taking is next; the text of a ring; its beats.
            (ann(here, *beats(20)), ann()), (ann(CALLED, *beats(20)), ann(here, *beats(20))),
            (bob(*ended), bob(("refuse", CALL, 486), here, *beats(20))), (done(Device("bob"), [other]), bob()),
            (bob(*beats(5)), bob()),
            # Whether a call was given up; which takings are known; by which path a talk goes; what was said.
            (called(("give_up", 0), without=("extra",)), called(without=("extra",))),
            (called(*gone), ann(CALLED, taken("cat"), *cat)), (done(Device("bob"), [path] + taking), bob(*taking)),
            (bob(("refuse", CALL, 486)), bob(("refuse", CALL, 487))),
        ):
            self.assertEqual((one.name(), one.calls(), one.rings()), (two.name(), two.calls(), two.rings()))
            self.assertNotEqual(one, two)

    def test_a_twin_goes_on_by_itself(self):
        for ways in self.WAYS:
            for deed in (BEAT, CALLED, hear(ring("den", "ann", 0, ("dan", 0)))):
                device = ann(*ways)
                twin = device.twin()
                self.assertEqual(device, twin)
                told = do(twin, deed)
                self.assertEqual(device, ann(*ways))
                self.assertEqual(do(device, deed), told)
                self.assertEqual(device, twin)

    def test_twins_stay_alike_for_long(self):
        for ways in self.WAYS:
            device = ann(*ways)
            twin = device.twin()
            for beat in range(120):
                self.assertEqual(device.beat(), twin.beat())
                self.assertEqual(device, twin)

    def test_by_names_and_to_other_things(self):
        self.assertNotEqual(Device("ann"), Device("bob"))
        for thing in (None, "ann", 0, Talk("asker", "hello"), [], ("ann",)):
            self.assertFalse(Device("ann") == thing)
            self.assertTrue(Device("ann") != thing)


class Refusals(Played):
    def test_no_name(self):
        for name in NOT_NAMES:
            with self.assertRaises(NoName) as caught:
                Device(name)
            self.assertIs(caught.exception.thing, name)

    def test_of_a_call(self):
        for thing in NOT_NAMES:
            self.refused(NoName, ann(), ("call", thing, "Hub", "Hello"), thing)
            self.refused(NoName, ann(), ("call", "zoe", thing, "Hello"), thing)
            self.refused(NoName, ann(), ("call", "zoe", "hub", thing), thing)
        self.refused(NoName, ann(), ("call", "zoe", "ann", "hello"), "ann")

    def test_of_a_here(self):
        for thing in NOT_NAMES:
            self.refused(NoName, ann(), ("here", thing, "Hub", None, None), thing)
            self.refused(NoName, ann(), ("here", "zoe", thing, None, None), thing)
        self.refused(NoName, ann(), ("here", "zoe", "ann", 10, 1000), "ann")
        for thing in ODD + [10, 1000, "5"]:
            self.refused(NoNumber, ann(), ("here", "zoe", "hub", thing, None), thing)
        for thing in ODD + [1000, "5"]:
            self.refused(NoNumber, ann(), ("here", "zoe", "hub", 9, thing), thing)


class TwoDevices(unittest.TestCase):
    """A call from one device straight to another, letter by letter."""

    def setUp(self):
        self.devices = {"ann": Device("ann"), "bob": Device("bob")}
        self.mail = []

    def do(self, name, *deed):
        """A deed; its letters are laid and told."""
        letters = do(self.devices[name], deed)
        self.mail += letters
        return letters

    def carry(self):
        """The first letter under way comes; the letters that come of it are laid and told."""
        letter = self.mail.pop(0)
        return self.do(letter[2], "hear", letter)

    def carry_all(self):
        """All letters come."""
        while self.mail:
            self.carry()

    def calm(self, rounds):
        """So many rounds in which all letters come."""
        for turn in range(rounds):
            self.carry_all()
            for name in self.devices:
                self.do(name, "beat")
        self.carry_all()

    def lose(self):
        """All letters under way are lost."""
        self.mail.clear()

    def states(self):
        """The states of the talk at both ends."""
        told = [device.talks().get(TALK) for device in self.devices.values()]
        return [talk and talk.state() for talk in told]

    def ring(self):
        """ann calls bob, and hears that it rings."""
        self.do("ann", "call", "zoe", "bob", "hello")
        self.carry_all()

    def talk(self):
        """They talk."""
        self.ring()
        self.do("bob", "take", CALL)
        self.carry_all()

    def test_all_of_it(self):
        self.assertEqual(self.do("ann", "call", "zoe", "bob", "hello"), [ring("ann", "bob", 0)])
        self.assertEqual(self.carry(), [answer("bob", "ann", 0, "rings", "bob", ())])
        self.assertEqual(self.carry(), [])
        self.assertEqual(self.do("bob", "take", CALL), [answer("bob", "ann", 0, "taken", "bob", 0, ())])
        self.assertEqual(self.carry(), [held("ann", "bob", TALK)])
        self.assertEqual(self.carry(), [])
        self.assertEqual(self.states(), ["stands", "stands"])
        self.assertEqual(self.do("ann", "change", TALK, "warm"), [ask("ann", "bob", 1, "again", TALK, 1, (), "warm")])
        self.assertEqual(self.carry(), [answer("bob", "ann", 1, "done")])
        self.assertEqual(self.carry(), [])
        self.assertEqual(self.do("bob", "change", TALK, "cool"), [ask("bob", "ann", 0, "again", TALK, 1, (), "cool")])
        self.carry_all()
        for device in self.devices.values():
            self.assertEqual(device.talks()[TALK].changes(), ["hello", "warm", "cool"])
        self.assertEqual(self.do("bob", "end", TALK), [ask("bob", "ann", 1, "bye", TALK, 2, ())])
        self.assertEqual(self.carry(), [answer("ann", "bob", 1, "done")])
        self.assertEqual(self.carry(), [])
        self.assertEqual(self.states(), ["over", "over"])
        self.calm(20)
        for device in self.devices.values():
            self.assertEqual((device.talks(), device.kept()), ({}, 0))

    def test_changes_that_cross(self):
        self.talk()
        self.do("ann", "change", TALK, "warm")
        self.do("bob", "change", TALK, "cool")
        self.assertEqual(self.carry(), [answer("bob", "ann", 1, "no", 491)])
        self.assertEqual(self.carry(), [answer("ann", "bob", 0, "no", 491)])
        self.calm(10)
        for device in self.devices.values():
            self.assertEqual(device.talks()[TALK].changes(), ["hello", "cool"])

    def test_the_taken_lost(self):
        self.ring()
        self.do("bob", "take", CALL)
        self.lose()
        self.assertEqual(self.do("bob", "beat"), [answer("bob", "ann", 0, "taken", "bob", 0, ())])
        self.carry_all()
        self.assertEqual(self.states(), ["stands", "stands"])

    def test_each_taken_lost(self):
        self.ring()
        self.do("bob", "take", CALL)
        for beat in range(15):
            self.lose()
            self.do("bob", "beat")
        self.lose()
        self.assertEqual(self.do("bob", "beat"), [ask("bob", "ann", 0, "bye", TALK, 1, ())])
        self.assertEqual(self.carry(), [answer("ann", "bob", 0, "no", 481)])
        self.carry_all()
        self.assertEqual(self.states(), [None, "over"])

    def test_the_held_lost(self):
        self.ring()
        self.do("bob", "take", CALL)
        self.carry()
        self.lose()
        self.assertEqual(self.states(), ["stands", "waits"])
        self.calm(1)
        self.assertEqual(self.states(), ["stands", "stands"])

    def test_each_held_lost(self):
        self.ring()
        self.do("bob", "take", CALL)
        for beat in range(16):
            self.mail = [letter for letter in self.mail if letter[0] != "held"]
            for name in self.devices:
                self.do(name, "beat")
            while self.mail and self.mail[0][0] != "held":
                self.carry()
        self.calm(1)
        self.assertEqual(self.states(), [None, None])

    def test_the_bye_lost(self):
        self.talk()
        self.do("ann", "end", TALK)
        self.lose()
        self.assertEqual(self.states(), ["ends", "stands"])
        self.calm(2)
        self.assertEqual(self.states(), [None, None])

    def test_each_bye_lost(self):
        self.talk()
        self.do("ann", "end", TALK)
        for beat in range(16):
            self.lose()
            self.do("ann", "beat")
            self.do("bob", "beat")
        self.lose()
        self.assertEqual(self.states(), [None, "stands"])
        self.calm(81)
        self.assertEqual(self.states(), [None, None])

    def test_a_talk_left_alone_stands_on(self):
        self.talk()
        self.calm(300)
        self.assertEqual(self.states(), ["stands", "stands"])

    def test_both_end_at_once(self):
        self.talk()
        self.do("ann", "end", TALK)
        self.do("bob", "end", TALK)
        self.carry_all()
        self.assertEqual(self.states(), ["over", "over"])
