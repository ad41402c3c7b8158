"""Houses: rings that are asked on and joined, stops, heres, letters sent on, and the order of all that is told."""

from ringingcalls.errors import NoLetter, NoName, NoNumber, NoTarget, NoTruth, TooMany
from ringingcalls.forks import Fork
from ringingcalls.houses import House
from ringingcalls.places import Places
from tests.helper import (
    CALL, EIGHT, NO_LETTERS, ODD, Played, answer, ask, do, done, hear, held, ring, shown, spoil, sure,
)

BEAT = ("beat",)
B, C, D = ("device", "bob"), ("device", "cat"), ("device", "dan")
INN, HUB = ("person", "yve", "inn"), ("person", "yve", "hub")
TALK = (CALL, "bob", 0)
FIRST = ("ann", 0)
NOT_NAMES = ODD + [0, ("hub",), "hub "]


def at(target, weight=5, beats=900, person="zoe"):
    """The deed that a person is placed."""
    return ("place", person, target, weight, beats)


def house(*deeds, stays=True):
    """A house, behind the deeds."""
    return done(House("hub", stays=stays), deeds)


def beats(many):
    """So many beats."""
    return [BEAT] * many


def came(**what):
    """The deed that ann's ring comes."""
    return hear(ring("ann", "hub", 0, **what))


def forking(*rows, stays=True):
    """A house with zoe at targets of these weights, to which ann's ring came."""
    return house(*[at(target, weight) for target, weight in rows], came(), stays=stays)


def below(name, number, *what):
    """The deed that an answer comes from below."""
    return hear(answer(name, "hub", number, *what))


def above(*what):
    """The answer that ann is told."""
    return answer("hub", "ann", 0, *what)


def asked(name, number, person="zoe", path=("hub",)):
    """The ring by which one below is asked."""
    return ring("hub", name, number, CALL, person, 8, path)


class Refused(Played):
    def test_hops_and_paths(self):
        seven = EIGHT[:7]
        for stays, what, rank in (
            (True, {"hops": 0}, 483), (False, {"hops": 0}, 483), (True, {"path": EIGHT}, 483),
            (True, {"hops": 0, "path": ("hub",)}, 483), (True, {"path": seven + ("hub",)}, 483),
            (True, {"path": ("hub",)}, 482), (False, {"path": ("inn", "hub")}, 482),
            (False, {"path": seven + ("hub",)}, 482), (True, {"person": "yve", "path": ("hub",)}, 482),
            (True, {"person": "yve"}, 480), (True, {"person": "yve", "hops": 0}, 483),
            (True, {"person": "yve", "path": EIGHT}, 483), (False, {"person": "yve", "path": EIGHT}, 480),
        ):
            hub = house(at(B), stays=stays)
            self.play(hub, (came(**what), [above("no", rank)]))
            self.assertEqual((hub.forks(), hub.askers(), hub.askeds()), ({}, [], [("ann", 0, "told")]))
            self.assertEqual(self.beaten(hub, 4), {beat: [above("no", rank)] for beat in (1, 3)})

    def test_the_last_hop_and_the_last_name_of_a_path(self):
        self.play(house(at(B)), (came(hops=1), [above("rings", "hub", ()), ring("hub", "bob", 0, hops=0, path=("hub",))]))
        seven = EIGHT[:7]
        self.play(house(at(B)), (
            came(path=seven), [above("rings", "hub", seven), ring("hub", "bob", 0, hops=8, path=seven + ("hub",))],
        ))
        self.play(house(at(B), stays=False), (
            came(path=EIGHT), [above("rings", "hub", EIGHT), ring("hub", "bob", 0, hops=8, path=EIGHT)],
        ))

    def test_while_a_fork_of_the_call_and_person_is_not_over(self):
        again = hear(ring("inn", "hub", 4, path=("inn",)))
        loop = [answer("hub", "inn", 4, "no", 482)]
        hub = house(at(B), at(B, person="yve"), came())
        self.play(hub, (again, loop))
        self.assertEqual(list(hub.forks()), [FIRST])
        other = [answer("hub", "inn", 5, "rings", "hub", ()), ring("hub", "bob", 1, CALL, "yve", 8, ("hub",))]
        self.play(hub, (hear(ring("inn", "hub", 5, person="yve")), other))
        self.play(hub, (
            hear(ring("inn", "hub", 6, ("ann", 1))),
            [answer("hub", "inn", 6, "rings", "hub", ()), ring("hub", "bob", 2, ("ann", 1), "zoe", 8, ("hub",))],
        ))
        for end in (below("bob", 0, "no", 486), below("bob", 0, "taken", "bob", 0, ("hub",))):
            hub = forking((B, 5))
            done(hub, [end])
            self.assertTrue(hub.forks()[FIRST].is_over())
            rung = [answer("hub", "inn", 4, "rings", "hub", ("inn",)), ring("hub", "bob", 1, CALL, "zoe", 8, ("inn", "hub"))]
            self.play(hub, (again, rung))

    def test_nowhere_once_the_places_are_gone(self):
        hub = house(at(B, beats=2), BEAT)
        self.assertEqual(len(hub.places()), 1)
        hub.beat()
        self.play(hub, (came(), [above("no", 480)]))


class Asks(Played):
    def test_a_device_a_person_elsewhere_and_one_of_its_own(self):
        hub = house(at(B), at(INN), at(HUB), at(("person", "zoe", "inn")))
        self.play(hub, (came(text="warm"), [
            above("rings", "hub", ()),
            ring("hub", "bob", 0, CALL, "zoe", 8, ("hub",), "warm"),
            ring("hub", "inn", 1, CALL, "yve", 8, ("hub",), "warm"),
            ring("hub", "inn", 2, CALL, "zoe", 8, ("hub",), "warm"),
        ]))
        fork = hub.forks()[FIRST]
        self.assertEqual(fork.asked(), [B, HUB, INN, ("person", "zoe", "inn")])
        self.assertEqual(fork.ends(), {HUB: 482})
        self.assertEqual(hub.askeds(), [("ann", 0, "goes")])
        # Three Askers, one Asked, one Fork.
        self.assertEqual(hub.kept(), 5)

    def test_a_house_that_does_not_stay_is_in_no_path(self):
        self.play(house(at(B), stays=False), (came(path=("inn",)), [
            above("rings", "hub", ("inn",)), ring("hub", "bob", 0, CALL, "zoe", 8, ("inn",)),
        ]))

    def test_only_of_its_own(self):
        hub = house(at(HUB, 5), at(("person", "xan", "hub"), 5), at(("device", "hub"), 4))
        self.play(hub, (came(), [above("rings", "hub", ()), above("no", 482)]))
        self.assertEqual(hub.askers(), [])
        hub = house(at(HUB, 5), at(B, 4))
        self.play(hub, (came(), [above("rings", "hub", ()), asked("bob", 0)]))

    def test_groups_one_behind_the_other(self):
        hub = forking((C, 9), (B, 9), (HUB, 6), (D, 3))
        self.assertEqual(hub.forks()[FIRST].asked(), [B, C])
        self.play(
            hub,
            (below("bob", 0, "no", 486), [sure("hub", "bob", 0)]),
            (below("cat", 1, "no", 404), [sure("hub", "cat", 1), asked("dan", 2)]),
            (below("dan", 2, "no", 500), [sure("hub", "dan", 2), above("no", 404)]),
            (below("dan", 2, "no", 500), [sure("hub", "dan", 2)]),
        )
        self.assertEqual(hub.forks()[FIRST].ends(), {B: 486, C: 404, HUB: 482, D: 500})

    def test_asked_anew(self):
        hub = forking((B, 5), (C, 5))
        both = [asked("bob", 0), asked("cat", 1)]
        self.assertEqual(self.beaten(hub, 8), {beat: both for beat in (1, 3, 7)})

    def test_the_ask_that_comes_again(self):
        hub = forking((B, 5))
        rings = above("rings", "bob", ("hub",))
        self.play(
            hub,
            (came(), [above("rings", "hub", ())]), (below("bob", 0, "rings", "bob", ("hub",)), [rings]), (came(), [rings]),
            (below("bob", 0, "no", 486), [sure("hub", "bob", 0), above("no", 486)]), (came(), [above("no", 486)]),
            (hear(sure("ann", "hub", 0)), []), (came(), []),
        )
        self.assertEqual(hub.askeds(), [("ann", 0, "quiet")])


class Joins(Played):
    def test_rings_as_they_came_from_below(self):
        hub = forking((B, 5), (INN, 5))
        self.play(
            hub,
            (below("inn", 1, "rings", "inn", ("hub",)), [above("rings", "inn", ("hub",))]),
            (below("inn", 1, "rings", "dan", ("hub", "inn")), [above("rings", "dan", ("hub", "inn"))]),
            (below("bob", 0, "rings", "bob", ("hub",)), [above("rings", "bob", ("hub",))]),
            (below("bob", 0, "no", 486), [sure("hub", "bob", 0)]),
            (below("bob", 0, "rings", "bob", ("hub",)), []),
        )

    def test_a_taking_stops_the_others(self):
        hub = forking((B, 5), (C, 5), (D, 5), (INN, 4))
        done(hub, [below("bob", 0, "rings", "bob", ("hub",)), below("cat", 1, "rings", "cat", ("hub",))])
        self.play(
            hub,
            (below("bob", 0, "taken", "bob", 7, ("hub",)), [
                above("taken", "bob", 7, ("hub",)), ask("hub", "cat", 3, "stop", 1),
            ]),
            # dan's ring is given up once it is heard of.
            (below("dan", 2, "rings", "dan", ("hub",)), [ask("hub", "dan", 4, "stop", 2)]),
            (below("cat", 1, "no", 487), [sure("hub", "cat", 1)]),
            (below("dan", 2, "no", 487), [sure("hub", "dan", 2)]),
        )
        self.assertTrue(hub.forks()[FIRST].is_over())

    def test_what_the_asker_tells_goes_first(self):
        hub = forking((B, 5), (C, 5))
        done(hub, [hear(ask("ann", "hub", 1, "stop", 0))])
        self.play(hub, (below("bob", 0, "rings", "bob", ("hub",)), [
            ask("hub", "bob", 2, "stop", 0), above("rings", "bob", ("hub",)),
        ]))

    def test_each_further_taking(self):
        hub = forking((B, 5), (C, 5))
        self.play(
            hub,
            (below("bob", 0, "taken", "bob", 0, ("hub",)), [above("taken", "bob", 0, ("hub",))]),
            (below("cat", 1, "taken", "cat", 3, ("hub",)), [above("taken", "cat", 3, ("hub",))]),
            (below("bob", 0, "taken", "bob", 0, ("hub",)), [above("taken", "bob", 0, ("hub",))]),
            (below("bob", 0, "taken", "dan", 5, ()), [above("taken", "dan", 5, ())]),
            (below("bob", 0, "rings", "bob", ("hub",)), []),
            (below("bob", 0, "no", 486), []),
        )
        self.assertEqual(hub.forks()[FIRST].ends(), {B: "taken", C: "taken"})
        self.assertEqual(hub.askeds(), [("ann", 0, "took")])
        self.assertEqual(self.beaten(hub, 15), {})
        self.play(hub, (below("cat", 1, "taken", "cat", 3, ("hub",)), [above("taken", "cat", 3, ("hub",))]))

    def test_a_taking_of_a_ring_that_has_ended_goes_on_in_took(self):
        hub = forking((B, 5), (C, 5))
        done(hub, [below("bob", 0, "rings", "bob", ("hub",)), below("cat", 1, "rings", "cat", ("hub",))] + beats(10))
        self.play(hub, (below("bob", 0, "taken", "bob", 0, ()), [
            above("taken", "bob", 0, ()), ask("hub", "cat", 2, "stop", 1),
        ]))
        done(hub, beats(12))
        self.play(hub, (below("cat", 1, "taken", "cat", 0, ()), [above("taken", "cat", 0, ())]))
        done(hub, beats(4))
        # The Asked and its Fork are gone; cat's Asker goes on, but nobody is told.
        self.assertEqual((hub.askeds(), hub.forks()), ([], {}))
        self.assertIn((1, asked("cat", 1), "took"), hub.askers())
        self.play(hub, (below("cat", 1, "taken", "cat", 0, ()), []))

    def test_behind_a_no_of_600(self):
        hub = forking((B, 5), (C, 5), (D, 4))
        done(hub, [below("cat", 1, "rings", "cat", ("hub",))])
        self.play(
            hub,
            (below("bob", 0, "no", 603), [sure("hub", "bob", 0), ask("hub", "cat", 2, "stop", 1)]),
            (below("cat", 1, "no", 487), [sure("hub", "cat", 1), above("no", 603)]),
        )

    def test_no_no_behind_a_taking(self):
        hub = forking((B, 5), (C, 5))
        self.play(
            hub,
            (below("bob", 0, "taken", "bob", 0, ()), [above("taken", "bob", 0, ())]),
            (below("cat", 1, "no", 603), [sure("hub", "cat", 1)]),
        )
        self.assertEqual(hub.askeds(), [("ann", 0, "took")])

    def test_late_is_a_no_of_408(self):
        hub = forking((B, 5), (C, 5), (D, 4))
        both = [asked("bob", 0), asked("cat", 1)]
        self.assertEqual(self.beaten(hub, 16), {1: both, 3: both, 7: both, 15: both, 16: [asked("dan", 2)]})
        self.assertEqual(hub.forks()[FIRST].ends(), {B: 408, C: 408})
        # The no is told on when the Asker is late, and its Asked has its first beat in the same one.
        told = self.beaten(hub, 16)
        self.assertEqual(told[16], [above("no", 408), above("no", 408)])

    def test_given_up_behind_120_beats(self):
        hub = forking((B, 5), (C, 5), (D, 4))
        rings = [below("bob", 0, "rings", "bob", ("hub",)), below("cat", 1, "rings", "cat", ("hub",))]
        for part in range(6):
            self.assertEqual([letter[4:] for letter in do(hub, rings[0])], [(("rings", "bob", ("hub",)),)])
            done(hub, rings[1:])
            if part < 5:
                self.assertEqual(self.beaten(hub, 20), {})
        stops = [ask("hub", "bob", 2, "stop", 0), ask("hub", "cat", 3, "stop", 1)]
        self.assertEqual(self.beaten(hub, 20), {20: stops})
        self.play(
            hub,
            (below("bob", 0, "no", 487), [sure("hub", "bob", 0)]),
            (below("cat", 1, "no", 486), [sure("hub", "cat", 1), above("no", 486)]),
        )

    def test_a_no_behind_the_fork_is_told_to_none(self):
        hub = forking((B, 5), (C, 5))
        done(hub, [below("cat", 1, "rings", "cat", ("hub",)), below("bob", 0, "taken", "bob", 0, ())] + beats(15))
        self.assertEqual(sorted(hub.forks()), [FIRST])
        done(hub, [below("cat", 1, "taken", "cat", 0, ())] + beats(1))
        self.assertEqual((hub.forks(), hub.askeds()), ({}, []))
        self.play(hub, (below("cat", 1, "taken", "cat", 0, ()), []))

    def test_late_behind_the_fork_is_told_to_none(self):
        hub = forking((B, 5), (C, 5))
        done(hub, beats(10) + [below("cat", 1, "rings", "cat", ("hub",)), below("bob", 0, "taken", "bob", 0, ())])
        self.assertEqual(self.beaten(hub, 40), {beat: [ask("hub", "cat", 2, "stop", 1)] for beat in (1, 3, 7, 11, 15)})
        self.assertEqual(hub.kept(), 0)


    def test_what_comes_of_an_asking_is_told_to_the_fork_that_asked_it_alone(self):
        for end in (
            below("cat", 1, "taken", "cat", 0, ()), below("cat", 1, "no", 486), below("cat", 1, "rings", "cat", ()),
        ):
            for placed in (at(B), at(C)):
                hub = forking((B, 5), (C, 5))
                done(hub, beats(10) + [below("bob", 0, "taken", "bob", 0, ()), BEAT, BEAT])
                done(hub, [below("cat", 1, "rings", "cat", ())] + beats(14))
                self.assertEqual((hub.forks(), hub.askeds()), ({}, []))
                self.assertIn((1, asked("cat", 1), "waits"), hub.askers())
                # A late copy of the ring makes another Fork of the same asking.
                done(hub, [at(B, beats=0), at(C, beats=0), placed, came()])
                fork = hub.forks()[FIRST]
                told = do(hub, end)
                self.assertEqual([letter for letter in told if letter[0] != "sure"], [])
                self.assertEqual(hub.forks(), {FIRST: fork})
                done(hub, beats(2))
                self.assertEqual(hub.forks()[FIRST].ends(), {})

    def test_what_comes_late_is_told_to_the_fork_that_asked_it_alone(self):
        hub = forking((B, 5), (C, 5))
        done(hub, beats(10) + [below("bob", 0, "taken", "bob", 0, ()), BEAT, BEAT])
        done(hub, [below("cat", 1, "rings", "cat", ())] + beats(14) + [at(B, beats=0), came()])
        done(hub, beats(2))
        self.assertNotIn(1, [row[0] for row in hub.askers()])
        self.assertEqual((hub.forks()[FIRST].asked(), hub.forks()[FIRST].ends()), ([C], {}))


class Stops(Played):
    def stop(self, number=0, asking=1, sender="ann"):
        """The deed that a stop comes."""
        return hear(ask(sender, "hub", asking, "stop", number))

    def test_of_a_ring_without_an_end(self):
        hub = forking((B, 5), (C, 5), (D, 4))
        done(hub, [below("bob", 0, "rings", "bob", ("hub",)), below("cat", 1, "rings", "cat", ("hub",))])
        self.play(
            hub,
            (self.stop(), [
                answer("hub", "ann", 1, "done"), ask("hub", "bob", 2, "stop", 0), ask("hub", "cat", 3, "stop", 1),
            ]),
            (self.stop(), [answer("hub", "ann", 1, "done")]),
            (self.stop(asking=2), [answer("hub", "ann", 2, "done")]),
            (below("bob", 0, "no", 487), [sure("hub", "bob", 0)]),
            (below("cat", 1, "no", 487), [sure("hub", "cat", 1), above("no", 487)]),
            (self.stop(asking=3), [answer("hub", "ann", 3, "done")]),
        )

    def test_of_a_ring_that_was_not_heard_of_below(self):
        hub = forking((B, 5))
        self.play(
            hub,
            (self.stop(), [answer("hub", "ann", 1, "done")]),
            (below("bob", 0, "rings", "bob", ("hub",)), [
                ask("hub", "bob", 1, "stop", 0), above("rings", "bob", ("hub",)),
            ]),
        )

    def test_of_one_told_or_took(self):
        refused = house(came())
        self.play(refused, (self.stop(), [answer("hub", "ann", 1, "done")]))
        took = forking((B, 5))
        done(took, [below("bob", 0, "taken", "bob", 0, ())])
        self.play(took, (self.stop(), [answer("hub", "ann", 1, "done")]))

    def test_of_none(self):
        none = [answer("hub", "ann", 1, "no", 481)]
        quiet = house(came(), hear(sure("ann", "hub", 0)))
        for hub in (house(), quiet, house(came(), *beats(16)), house(hear(ask("ann", "hub", 0, "here", "zoe", 1, 1)))):
            self.play(hub, (self.stop(), none))
        self.play(forking((B, 5)), (self.stop(number=1), none), (self.stop(sender="inn"), [answer("hub", "inn", 1, "no", 481)]))


class Heres(Played):
    def here(self, number, *what, sender="bob"):
        """The deed that a here comes."""
        return hear(ask(sender, "hub", number, "here", *what))

    def test_put_to_the_asker_as_a_device(self):
        hub = house()
        self.play(
            hub,
            (self.here(0, "zoe", 5, 60), [answer("hub", "bob", 0, "done")]),
            (self.here(0, "zoe", 5, 60), [answer("hub", "bob", 0, "done")]),
            (self.here(0, "yve", 5, 60, sender="cat"), [answer("hub", "cat", 0, "done")]),
            (self.here(1, "zoe", 7, 50, sender="cat"), [answer("hub", "cat", 1, "done")]),
        )
        self.assertEqual((hub.places().groups("zoe"), hub.places().groups("yve")), (((C,), (B,)), ((C,),)))
        self.assertEqual(hub.places().left("zoe", B), 60)
        done(hub, beats(16))
        self.assertEqual((hub.places().left("zoe", B), hub.askeds()), (44, []))
        self.play(
            hub,
            (self.here(2, "zoe", 9, 9), [answer("hub", "bob", 2, "done")]),
            (self.here(2, "zoe", 0, 0, sender="cat"), [answer("hub", "cat", 2, "done")]),
        )
        self.assertEqual((hub.places().groups("zoe"), hub.places().left("zoe", B)), (((B,),), 9))

    def test_a_late_copy_is_a_telling_like_any_other(self):
        hub = house(self.here(0, "zoe", 5, 60), self.here(1, "zoe", 5, 0), *beats(16))
        self.assertEqual(hub.places(), Places())
        self.play(hub, (self.here(0, "zoe", 5, 60), [answer("hub", "bob", 0, "done")]))
        self.assertEqual(hub.places().left("zoe", B), 60)

    def test_a_ninth(self):
        hub = house(*[at(("device", name)) for name in EIGHT])
        self.play(
            hub,
            (self.here(0, "zoe", 5, 60), [answer("hub", "bob", 0, "no", 503)]),
            (self.here(0, "zoe", 5, 60), [answer("hub", "bob", 0, "no", 503)]),
            (self.here(1, "zoe", 5, 0), [answer("hub", "bob", 1, "done")]),
            (self.here(2, "yve", 5, 60), [answer("hub", "bob", 2, "done")]),
            (self.here(3, "zoe", 1, 1, sender="a"), [answer("hub", "a", 3, "done")]),
        )
        self.assertEqual(hub.places().left("zoe", B), 0)

    def test_places_by_place(self):
        hub = House("hub")
        self.assertIs(hub.place(beats=3, weight=2, target=INN, person="zoe"), None)
        places = Places()
        places.tell("zoe", INN, 2, 3)
        self.assertEqual(hub.places(), places)
        for left in (2, 1, 0):
            hub.beat()
            self.assertEqual(hub.places().left("zoe", INN), left)

    def test_what_places_refuse(self):
        for thing in NOT_NAMES:
            self.refused(NoName, house(), ("place", thing, None, None, None), thing)
        for thing in ODD + ["bob", ("device",), ["device", "bob"]]:
            self.refused(NoTarget, house(), ("place", "zoe", thing, None, None), thing)
        for thing in ODD + [10]:
            self.refused(NoNumber, house(), ("place", "zoe", B, thing, None), thing)
        for thing in ODD + [1000]:
            self.refused(NoNumber, house(), ("place", "zoe", B, 1, thing), thing)
        hub = house(*[at(("device", name)) for name in EIGHT])
        like = hub.twin()
        with self.assertRaises(TooMany) as caught:
            hub.place("zoe", B, 5, 1)
        self.assertEqual(caught.exception.many, 9)
        self.assertEqual(hub, like)


class SentOn(Played):
    def test_bye_and_again_by_a_way(self):
        for kind, texts in (("bye", ()), ("again", ("warm",))):
            for stays in (True, False):
                hub = house(stays=stays)
                letter = ask("ann", "hub", 5, kind, TALK, 3, ("inn", "bob"), *texts)
                on = ask("hub", "inn", 0, kind, TALK, 3, ("bob",), *texts)
                self.play(
                    hub,
                    (hear(letter), [on]), (hear(letter), []), (BEAT, [on]),
                    (below("inn", 0, "done"), [answer("hub", "ann", 5, "done")]), (below("inn", 0, "done"), []),
                    (hear(letter), [answer("hub", "ann", 5, "done")]),
                )
                self.assertEqual(hub.kept(), 2 if kind == "bye" else 0)

    def test_a_no_is_answered_as_it_is(self):
        hub = house(hear(ask("ann", "hub", 5, "again", TALK, 3, ("bob",), "warm")))
        self.assertEqual(hub.askers(), [(0, ask("hub", "bob", 0, "again", TALK, 3, (), "warm"), "calls")])
        self.assertEqual(hub.askeds(), [("ann", 5, "goes")])
        self.play(hub, (below("bob", 0, "no", 491), [answer("hub", "ann", 5, "no", 491)]))

    def test_408_where_it_is_late(self):
        hub = house(hear(ask("ann", "hub", 5, "bye", TALK, 3, ("bob",))))
        on = [ask("hub", "bob", 0, "bye", TALK, 3, ())]
        told = self.beaten(hub, 16)
        self.assertEqual(told, {1: on, 3: on, 7: on, 11: on, 15: on, 16: [answer("hub", "ann", 5, "no", 408)]})
        self.assertEqual((hub.askers(), hub.askeds()), ([], [("ann", 5, "told")]))
        # Its Asked had its first beat with the answer.
        done(hub, beats(14))
        self.assertEqual(hub.askeds(), [("ann", 5, "told")])
        hub.beat()
        self.assertEqual(hub.askeds(), [])

    def test_no_way_or_itself_first(self):
        for number, way in enumerate(((), ("hub",), ("hub", "bob"))):
            hub = house()
            self.play(
                hub,
                (hear(ask("ann", "hub", 7, "bye", TALK, 1, way)), [answer("hub", "ann", 7, "no", 481)]),
                (hear(ask("ann", "hub", 8, "again", TALK, 1, way, "warm")), [answer("hub", "ann", 8, "no", 481)]),
                (hear(held("ann", "hub", TALK, *way)), []),
            )
            self.assertEqual(hub.askers(), [])

    def test_held(self):
        for way in (("bob",), ("inn", "bob"), EIGHT):
            hub = house()
            self.play(hub, (hear(held("ann", "hub", TALK, *way)), [held("hub", way[0], TALK, *way[1:])]))
            self.assertEqual(hub, house())

    def test_ways_of_eight(self):
        self.play(house(), (
            hear(ask("ann", "hub", 0, "bye", TALK, 1, EIGHT)), [ask("hub", "a", 0, "bye", TALK, 1, EIGHT[1:])],
        ))


class Letters(Played):
    def test_no_letter(self):
        for letter in NO_LETTERS + [ring("ann", "inn", 0), sure("hub", "ann", 0), sure("ann", "hub", True)]:
            self.refused(NoLetter, house(at(B)), hear(letter), letter)
        self.assertEqual(House("hub").hear(letter=sure("ann", "hub", 0)), [])

    def test_answers_and_sures_that_are_nothing(self):
        for letter in (
            answer("bob", "hub", 1, "rings", "bob", ()), answer("cat", "hub", 0, "rings", "bob", ()),
            answer("cat", "hub", 0, "no", 486), answer("cat", "hub", 0, "taken", "cat", 0, ()),
            answer("bob", "hub", 0, "done"), sure("ann", "hub", 1), sure("bob", "hub", 0),
        ):
            hub = forking((B, 5))
            like = hub.twin()
            self.assertEqual(hub.hear(letter), [], letter)
            self.assertEqual(hub, like)
        relay = house(hear(ask("ann", "hub", 5, "bye", TALK, 3, ("bob",))))
        like = relay.twin()
        for letter in (
            answer("bob", "hub", 0, "rings", "bob", ()), answer("bob", "hub", 0, "taken", "bob", 0, ()),
            answer("cat", "hub", 0, "done"), answer("bob", "hub", 1, "done"),
        ):
            self.assertEqual(relay.hear(letter), [], letter)
            self.assertEqual(relay, like)

    def test_answers_to_a_stop_are_nothing_more(self):
        hub = forking((B, 5))
        done(hub, [below("bob", 0, "rings", "bob", ()), hear(ask("ann", "hub", 1, "stop", 0))])
        self.play(hub, (below("bob", 1, "done"), []), (below("bob", 1, "no", 481), []))


class Beats(Played):
    def kept_ringing(self, hub, many):
        """The house, behind so many beats, while it rings at bob and cat, its askings 0 and 1."""
        for beat in range(many):
            done(hub, [below("bob", 0, "rings", "bob", ()), below("cat", 1, "rings", "cat", ()), BEAT])
        return hub

    def test_the_order(self):
        hub = house(
            at(B, person="yve"), at(C, person="xan"), hear(ring("inn", "hub", 10, ("dan", 0), "yve")),
            hear(ring("inn", "hub", 9, ("dan", 1), "xan")),
        )
        self.kept_ringing(hub, 104)
        done(hub, [hear(ask("ann", "hub", 4, "bye", TALK, 1, ("bob",))), hear(ask("ann", "hub", 3, "bye", TALK, 2, ("cat",)))])
        self.kept_ringing(hub, 15)
        done(hub, [hear(ask("dan", "hub", 2, "bye", TALK, 2, ("cat",))), hear(ring("bob", "hub", 5, ("bob", 5), "wim"))])
        done(hub, [hear(ring("ann", "hub", 5, ("ann", 5), "wim"))])
        self.assertEqual(hub.beat(), [
            # The Askers, then what came late, by numbers.
            ask("hub", "cat", 4, "bye", TALK, 2, ()), answer("hub", "ann", 4, "no", 408), answer("hub", "ann", 3, "no", 408),
            # The Askeds, by (from, n), then the Forks likewise, both given up.
            answer("hub", "ann", 5, "no", 480), answer("hub", "bob", 5, "no", 480),
            ask("hub", "cat", 5, "stop", 1), ask("hub", "bob", 6, "stop", 0),
        ])

    def test_a_fork_is_given_up_once(self):
        hub = self.kept_ringing(house(at(B), at(C), came()), 119)
        self.assertEqual(hub.beat(), [ask("hub", "bob", 2, "stop", 0), ask("hub", "cat", 3, "stop", 1)])
        done(hub, [below("bob", 2, "done"), below("cat", 3, "done")])
        self.assertEqual(self.beaten(hub, 16), {16: [above("no", 408), above("no", 408)]})

    def test_askers_and_askeds_by_their_numbers(self):
        hub = house(*[hear(ask(name, "hub", n, "bye", TALK, 1, ("bob",))) for name in ("dan", "cat") for n in (10, 9, 2)])
        self.assertEqual([letter[3] for letter in hub.beat()], list(range(6)))
        self.assertEqual([row[0] for row in hub.askers()], list(range(6)))
        self.assertEqual([row[:2] for row in hub.askeds()], [(name, n) for name in ("cat", "dan") for n in (2, 9, 10)])

    def test_places_have_their_beat_first(self):
        # The last beat of a place goes by ahead of all else, so a group that is asked in it was told long ago.
        hub = house(at(B, 5, 16), at(C, 4, 16), came(), *beats(15))
        self.assertEqual(len(hub.places()), 2)
        self.assertEqual(hub.beat(), [asked("cat", 1)])
        self.assertEqual(len(hub.places()), 0)


class Alike(Played):
    WAYS = (
        [], [at(B)], [at(B, 4)], [at(C)], [at(B, beats=5)], [at(B), came()], [at(B), came(text="warm")],
        [at(B), came(path=("inn",))], [at(B), hear(ring("ann", "hub", 1))], [at(B), came(), below("bob", 0, "rings", "bob", ())],
        [at(B), came(), below("bob", 0, "no", 486)], [at(B), came(), below("bob", 0, "no", 487)],
        [at(B), came(), below("bob", 0, "taken", "bob", 0, ())], [at(B), came(), BEAT], [came()],
        [hear(ask("ann", "hub", 0, "here", "zoe", 5, 900))], [hear(ask("ann", "hub", 0, "bye", TALK, 1, ("bob",)))],
        [hear(ask("ann", "hub", 0, "again", TALK, 1, ("bob",), "warm"))], [hear(ask("ann", "hub", 0, "bye", TALK, 1, ()))],
        [hear(ask("ann", "hub", 0, "again", TALK, 1, (), "warm"))],
    )

    def test_those_that_did_the_same_alone(self):
        for first, ways in enumerate(self.WAYS):
            for second, others in enumerate(self.WAYS):
                self.assertEqual(house(*ways) == house(*others), first == second, (ways, others))
            self.assertNotEqual(house(*ways), house(*ways, stays=False))

    def test_those_that_go_on_unlike(self):
        rings = below("bob", 0, "rings", "bob", ())
        byes = [hear(ask(name, "hub", 5, "bye", TALK, 1, ("bob",))) for name in ("ann", "dan")]
        for ways, others in (
            # A target's rank in a Fork alone; the beats of a Fork; for whom a bye was sent on; what is asked next.
            ([at(B), at(C), came(), below("bob", 0, "no", 486)], [at(B), at(C), came(), below("bob", 0, "no", 487)]),
            ([at(B), came(), rings, *beats(5), rings, at(B)], [at(B), came(), rings, at(B)]),
            (byes, byes[::-1]),
            ([hear(ask("ann", "hub", 0, "bye", TALK, 1, ("bob",))), *beats(40)], beats(40)),
        ):
            self.assertNotEqual(house(*ways), house(*others), ways)
            self.assertEqual(house(*ways), house(*ways))

    def test_a_twin_goes_on_by_itself(self):
        for ways in self.WAYS:
            for stays in (True, False):
                for deed in (BEAT, at(D), hear(ring("den", "hub", 3)), below("bob", 0, "no", 603)):
                    hub = house(*ways, stays=stays)
                    twin = hub.twin()
                    self.assertEqual(hub, twin)
                    told = do(twin, deed)
                    self.assertEqual(hub, house(*ways, stays=stays))
                    self.assertEqual(do(hub, deed), told)
                    self.assertEqual(hub, twin)

    def test_twins_stay_alike_for_long(self):
        for ways in self.WAYS:
            hub = house(*ways)
            twin = hub.twin()
            for beat in range(160):
                self.assertEqual(hub.beat(), twin.beat())
                self.assertEqual(hub, twin)
            self.assertEqual(hub.kept(), 0)

    def test_by_names_and_to_other_things(self):
        self.assertNotEqual(House("hub"), House("inn"))
        for thing in (None, "hub", 0, Places(), [], ("hub", True)):
            self.assertFalse(House("hub") == thing)


class Told(Played):
    def test_a_new_one(self):
        for hub, stays in ((House("hub"), True), (House(name="hub", stays=False), False), (House("hub", stays=True), True)):
            self.assertEqual(shown(hub), ("hub", 0, [], []))
            self.assertIs(hub.stays(), stays)
            self.assertEqual((hub.places(), hub.forks(), hub.beat()), (Places(), {}, []))

    def test_refused(self):
        for name in NOT_NAMES:
            with self.assertRaises(NoName) as caught:
                House(name, stays=None)
            self.assertIs(caught.exception.thing, name)
        for thing in ODD + [0, 1, "yes"]:
            if thing is not True and thing is not False:
                with self.assertRaises(NoTruth) as caught:
                    House("hub", stays=thing)
                self.assertIs(caught.exception.thing, thing)

    def test_lists_dicts_and_twins_are_the_askers_own(self):
        hub = forking((B, 5), (C, 5))
        like = hub.twin()
        for thing in (hub.forks(), hub.askers(), hub.askeds(), hub.beat(), like.beat()):
            spoil(thing)
        hub.places().tell("zoe", B, 5, 0)
        hub.places().beat()
        for fork in hub.forks().values():
            fork.give_up()
        self.assertEqual(hub, like)

    def test_forks(self):
        hub = forking((B, 5), (C, 4))
        fork = Fork(((B,), (C,)))
        fork.begin()
        self.assertEqual(hub.forks(), {FIRST: fork})
        told = hub.forks()
        done(hub, [below("bob", 0, "no", 486)])
        self.assertEqual(told, {FIRST: fork})
        fork.no(B, 486)
        self.assertEqual(hub.forks(), {FIRST: fork})

    def test_a_fork_goes_with_its_asked(self):
        hub = forking((B, 5))
        done(hub, [below("bob", 0, "no", 486)] + beats(15))
        self.assertEqual((sorted(hub.forks()), hub.kept()), ([FIRST], 3))
        hub.beat()
        self.assertEqual((hub.forks(), hub.askers(), hub.kept()), ({}, [], 0))
