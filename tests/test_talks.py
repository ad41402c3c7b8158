"""Talks: each role and state with all that is done, answered, heard and beaten."""

import random
import unittest

from ringingcalls.errors import Busy, NoRole
from ringingcalls.talks import ROLES, Talk
from tests.helper import STRANGE, beats, do, done, spoil

BEAT, HELD, END, GONE = ("beat",), ("held",), ("end",), ("gone",)
WARM, COOL = ("change", "warm"), ("change", "cool")
DONE, GLARE, LATE = ("answered", "done"), ("answered", 491), ("answered", "late")
RULES = ("hold", "extra", "given", "refresh", "late", "glare", "number")
OTHER_RANKS = (300, 404, 407, 409, 480, 482, 487, 490, 492, 500, 600, 699)


def again(number, text="cool"):
    """The deed that an again is heard."""
    return ("hear_again", number, text)


def bye(number):
    """The deed that a bye is heard."""
    return ("hear_bye", number)


# How each kind of state is come to, of a talk that stands already.
STANDING = {
    "stands": [],
    "stands late": beats(31),
    "under way": [WARM],
    "to come": [WARM, GLARE],
    "to come soon": [WARM, GLARE, BEAT],
    "changed": [WARM, DONE],
    "heard": [again(5)],
    "heard under way": [again(5), WARM],
    "heard to come": [again(5), WARM, GLARE],
    "ends": [END],
    "ends of under way": [WARM, END],
    "ends of to come": [WARM, GLARE, END],
    "ends of heard": [again(5), END],
    "over": [END, GONE],
    "over of a bye": [bye(3)],
    "over of 481": [WARM, ("answered", 481)],
    "over of late": [WARM, LATE],
}
WAYS = {("asker", way): deeds for way, deeds in STANDING.items()}
WAYS.update({("asked", way): [HELD] + deeds for way, deeds in STANDING.items()})
WAYS.update({
    ("asked", "waits"): [], ("asked", "waits late"): beats(15), ("asked", "ends of waits"): beats(16),
    ("asked", "ended in waits"): [END], ("asked", "stood long"): [HELD] + beats(95),
})
DEEDS = [BEAT, HELD, END, GONE, WARM, COOL, ("change", "hello"), DONE, LATE]
DEEDS += [("answered", rank) for rank in (408, 481, 491) + OTHER_RANKS]
DEEDS += [again(number, text) for number in (1, 4, 5, 6, 9) for text in ("hello", "warm", "cool")]
DEEDS += [bye(number) for number in (1, 4, 5, 6, 9)]


def made(role, way, without=()):
    """A talk of that role that came to its state by one of the ways."""
    return done(Talk(role, "hello", without=without), WAYS[role, way])


def standing(role, deeds=(), without=()):
    """A talk of that role that stands, then the deeds."""
    return done(Talk(role, "hello", without=without), [HELD] + list(deeds))


def told(talk):
    """All that a talk tells when it is asked, but its role."""
    return (talk.state(), talk.changes(), talk.numbers(), talk.under_way(), talk.to_come())


class Plain:
    """A talk as its promise tells it: it keeps when things were, and looks back at each beat."""

    def __init__(self, role, text, without=()):
        self.role, self.without = role, without
        self.now = "stands" if role == "asker" else "waits"
        self.texts, self.own, self.heard = [text], 0, 0
        self.going = self.coming = self.due = None
        self.time, self.turned, self.signs = 0, 0, [0]

    def told(self):
        live = self.now == "stands"
        return (
            self.now, list(self.texts), (self.own, self.heard), self.going if live else None, self.coming if live else None,
        )

    def held(self):
        if self.now == "waits":
            self.now, self.signs = "stands", [self.time]
        return []

    def end(self):
        if self.now not in ("waits", "stands"):
            return []
        self.now = "ends"
        self.own += 1
        return [("bye", self.own)]

    def gone(self):
        if self.now == "ends":
            self.now = "over"
        return []

    def sent(self, text):
        self.own += 1
        self.going, self.coming = text, None
        return [("again", self.own, text)]

    def change(self, text):
        if self.now != "stands":
            return []
        if self.going or self.coming:
            raise Busy
        return self.sent(text)

    def put(self, text):
        if self.texts[-1:] != [text]:
            self.texts.append(text)
            self.coming = None

    def answered(self, answer):
        if self.now == "stands" and self.going:
            text, self.going = self.going, None
            if answer == "done":
                self.signs.append(self.time)
                self.put(text)
            if answer == 491:
                self.coming, self.due = text, self.time + {"asker": 5, "asked": 2}[self.role]
            if answer == 481 or (answer in (408, "late") and "late" not in self.without):
                self.now = "over"
        return []

    def hear_again(self, number, text):
        self.held()
        if self.now != "stands":
            return 481
        if number <= self.heard and "number" not in self.without:
            return 500
        if number > self.heard:
            self.heard = number
            if self.role == "asked":
                self.signs.append(self.time)
        if self.going and "glare" not in self.without:
            return 491
        self.put(text)
        return "done"

    def hear_bye(self, number):
        self.held()
        if self.now == "over":
            return 481
        if self.now == "stands" and number <= self.heard and "number" not in self.without:
            return 500
        self.heard, self.now = max(number, self.heard), "over"
        return "done"

    def beat(self):
        self.time += 1
        if self.now == "waits":
            if self.time == 16 and "hold" not in self.without:
                return self.end()
            return [("taken",)] if self.time in (1, 3, 7, 11, 15) else []
        if self.now != "stands":
            return []
        quiet = self.time - self.signs[-1]
        if self.role == "asked" and quiet >= 96 and "refresh" not in self.without:
            return self.end()
        if self.coming:
            return self.sent(self.coming) if self.time == self.due else []
        if self.role == "asker" and quiet >= 32 and not self.going:
            self.signs.append(self.time)
            return self.sent(self.texts[-1])
        return []


def tried(talk, deed):
    """What a deed tells, Busy too."""
    try:
        return do(talk, deed)
    except Busy:
        return "busy"


class Like(unittest.TestCase):
    def alike(self, talk, plain, deed):
        """The deed tells the same of both, and so do both then."""
        self.assertEqual(tried(talk, deed), tried(plain, deed), (deed, plain.role, plain.without))
        self.assertEqual(told(talk), plain.told(), (deed, plain.role, plain.without))


class Everything(Like):
    def test_each_deed_in_each_state(self):
        for without in [()] + [(rule,) for rule in RULES] + [RULES]:
            for role, way in WAYS:
                for deed in DEEDS:
                    talk, plain = Talk(role, "hello", without=without), Plain(role, "hello", without)
                    for ahead in WAYS[role, way] + [deed]:
                        self.alike(talk, plain, ahead)
                    self.assertEqual(talk.role(), role)

    def test_beats_up_to_each_bound_and_beyond(self):
        for without in [()] + [(rule,) for rule in RULES] + [RULES]:
            for role, way in WAYS:
                talk, plain = Talk(role, "hello", without=without), Plain(role, "hello", without)
                for ahead in WAYS[role, way] + beats(200):
                    self.alike(talk, plain, ahead)

    def test_drawn_deeds(self):
        chance = random.Random(11)
        for run in range(1500):
            role = chance.choice(ROLES)
            without = tuple(rule for rule in RULES if chance.random() < 0.15)
            talk, plain = Talk(role, "hello", without=without), Plain(role, "hello", without)
            rare = [HELD, GONE, END, ("answered", 481), LATE, ("answered", 408)]
            often = beats(chance.choice((4, 40))) + [DONE, GLARE, ("answered", 500), WARM, COOL]
            number = 0
            for step in range(chance.choice((20, 200))):
                deed = chance.choice(often)
                if chance.random() < 0.1:
                    number += chance.choice((-1, 0, 1, 1, 2))
                    deed = again(max(1, number), chance.choice(("warm", "cool", "hello")))
                if chance.random() < 0.01:
                    deed = chance.choice(rare + [bye(max(1, number)), bye(number + 2)])
                self.alike(talk, plain, deed)


class New(unittest.TestCase):
    def test_roles(self):
        self.assertEqual(ROLES, ("asker", "asked"))
        self.assertIsInstance(ROLES, tuple)

    def test_at_first(self):
        self.assertEqual(told(Talk("asker", "hello")), ("stands", ["hello"], (0, 0), None, None))
        self.assertEqual(told(Talk("asked", "hello")), ("waits", ["hello"], (0, 0), None, None))
        for role in ROLES:
            self.assertEqual(Talk(role, "hello").role(), role)

    def test_by_names(self):
        talk = Talk(text="hello", role="asker", without=("late",))
        self.assertEqual(talk, Talk("asker", "hello", without=("late",)))
        self.assertEqual(talk.change(text="warm"), [("again", 1, "warm")])
        self.assertEqual(talk.answered(answer="done"), [])
        self.assertEqual(talk.hear_again(text="cool", number=1), "done")
        self.assertEqual(talk.hear_bye(number=2), "done")
        with self.assertRaises(TypeError):
            Talk("asker", "hello", ("late",))

    def test_no_role(self):
        for thing in STRANGE + ["askers", "Asker", "waits", "stands", ("asker",)]:
            with self.assertRaises(NoRole) as caught:
                Talk(thing, "hello")
            self.assertIs(caught.exception.thing, thing)
            with self.assertRaises(NoRole):
                Talk(role=thing, text="hello", without=("late",))


class Waits(unittest.TestCase):
    def test_taken_is_said_again_then_it_ends(self):
        talk = Talk("asked", "hello")
        said = {1: [("taken",)], 3: [("taken",)], 7: [("taken",)], 11: [("taken",)], 15: [("taken",)], 16: [("bye", 1)]}
        for beat in range(1, 40):
            self.assertEqual(talk.beat(), said.get(beat, []), beat)
            self.assertEqual(talk.state(), "waits" if beat < 16 else "ends", beat)
        self.assertEqual(talk.numbers(), (1, 0))

    def test_held_at_any_beat_it_stands(self):
        for ahead in range(16):
            talk = done(Talk("asked", "hello"), beats(ahead))
            self.assertEqual(talk.held(), [])
            self.assertEqual(told(talk), ("stands", ["hello"], (0, 0), None, None))
            self.assertEqual([talk.beat() for beat in range(96)], [[]] * 95 + [[("bye", 1)]])

    def test_what_it_hears_holds_it(self):
        for ahead in range(16):
            talk = done(Talk("asked", "hello"), beats(ahead))
            self.assertEqual(talk.hear_again(1, "warm"), "done")
            self.assertEqual(told(talk), ("stands", ["hello", "warm"], (0, 1), None, None))
            talk = done(Talk("asked", "hello"), beats(ahead))
            self.assertEqual(talk.hear_bye(1), "done")
            self.assertEqual(told(talk), ("over", ["hello"], (0, 1), None, None))

    def test_it_is_ended_but_not_changed(self):
        self.assertEqual(Talk("asked", "hello").end(), [("bye", 1)])
        talk = Talk("asked", "hello")
        self.assertEqual([talk.change("warm"), talk.answered("done"), talk.gone()], [[], [], []])
        self.assertEqual(talk, Talk("asked", "hello"))


class Changes(unittest.TestCase):
    def test_done(self):
        for role in ROLES:
            talk = standing(role)
            self.assertEqual(talk.change("warm"), [("again", 1, "warm")])
            self.assertEqual(told(talk), ("stands", ["hello"], (1, 0), "warm", None))
            self.assertEqual(talk.answered("done"), [])
            self.assertEqual(told(talk), ("stands", ["hello", "warm"], (1, 0), None, None))
            self.assertEqual(talk.change("warm"), [("again", 2, "warm")])
            talk.answered("done")
            self.assertEqual(told(talk), ("stands", ["hello", "warm"], (2, 0), None, None))
            done(talk, [("change", "hello"), DONE])
            self.assertEqual(told(talk), ("stands", ["hello", "warm", "hello"], (3, 0), None, None))

    def test_busy(self):
        for role in ROLES:
            for way in ("under way", "to come", "to come soon", "heard under way", "heard to come"):
                talk = made(role, way)
                for text in ("warm", "cool", "hello"):
                    with self.assertRaises(Busy):
                        talk.change(text)
                self.assertEqual(talk, made(role, way))
        refreshing = standing("asker", beats(32))
        with self.assertRaises(Busy):
            refreshing.change("warm")

    def test_over_by_481_408_or_late(self):
        for role in ROLES:
            for answer in (481, 408, "late"):
                talk = standing(role, [again(4), WARM])
                self.assertEqual(talk.answered(answer), [])
                self.assertEqual(told(talk), ("over", ["hello", "cool"], (1, 4), None, None))

    def test_another_no_lets_it_go(self):
        for role in ROLES:
            for rank in OTHER_RANKS:
                talk = standing(role, [WARM])
                self.assertEqual(talk.answered(rank), [])
                self.assertEqual(told(talk), ("stands", ["hello"], (1, 0), None, None))
                self.assertEqual(talk.change("cool"), [("again", 2, "cool")])

    def test_an_answer_to_nothing_is_nothing(self):
        for role in ROLES:
            for answer in ("done", "late", 408, 481, 491, 500):
                for way in ("stands", "to come", "changed", "ends", "ends of under way", "over"):
                    talk = made(role, way)
                    self.assertEqual(talk.answered(answer), [])
                    self.assertEqual(talk, made(role, way))


class Again(unittest.TestCase):
    def test_it_comes_again_behind_5_beats_or_2(self):
        for role, pause in (("asker", 5), ("asked", 2)):
            talk = standing(role, beats(3) + [WARM, BEAT, GLARE])
            self.assertEqual(told(talk), ("stands", ["hello"], (1, 0), None, "warm"))
            for beat in range(1, pause):
                self.assertEqual(talk.beat(), [])
                self.assertEqual(told(talk), ("stands", ["hello"], (1, 0), None, "warm"))
            self.assertEqual(talk.beat(), [("again", 2, "warm")])
            self.assertEqual(told(talk), ("stands", ["hello"], (2, 0), "warm", None))
            self.assertEqual([talk.beat() for beat in range(10)], [[]] * 10)
            talk.answered(491)
            self.assertEqual([talk.beat() for beat in range(pause)], [[]] * (pause - 1) + [[("again", 3, "warm")]])

    def test_let_go_where_another_was_done(self):
        for role in ROLES:
            talk = standing(role, [WARM, GLARE, BEAT])
            self.assertEqual(talk.hear_again(1, "cool"), "done")
            self.assertEqual(told(talk), ("stands", ["hello", "cool"], (1, 1), None, None))
            self.assertEqual([talk.beat() for beat in range(10)], [[]] * 10)
            self.assertEqual(talk.change("dry"), [("again", 2, "dry")])

    def test_not_let_go_by_the_last_text(self):
        for role, pause in (("asker", 5), ("asked", 2)):
            talk = standing(role, [WARM, GLARE, BEAT])
            self.assertEqual(talk.hear_again(1, "hello"), "done")
            self.assertEqual(told(talk), ("stands", ["hello"], (1, 1), None, "warm"))
            self.assertEqual([talk.beat() for beat in range(pause - 1)], [[]] * (pause - 2) + [[("again", 2, "warm")]])

    def test_not_let_go_by_what_is_refused(self):
        for role in ROLES:
            talk = standing(role, [again(5, "hello"), WARM, GLARE])
            self.assertEqual(talk.hear_again(5, "cool"), 500)
            self.assertEqual(talk.to_come(), "warm")


class Heard(unittest.TestCase):
    def test_numbers_that_are_not_greater(self):
        for role in ROLES:
            for number in (1, 4, 5):
                for deed in (again(number, "dry"), bye(number)):
                    for ahead in ([], [WARM], [WARM, GLARE]):
                        talk = standing(role, [again(5)] + ahead)
                        like = talk.twin()
                        self.assertEqual(do(talk, deed), 500)
                        self.assertEqual(talk, like)

    def test_an_again_is_done(self):
        for role in ROLES:
            talk = standing(role, [again(5)])
            self.assertEqual(talk.hear_again(6, "dry"), "done")
            self.assertEqual(told(talk), ("stands", ["hello", "cool", "dry"], (0, 6), None, None))
            self.assertEqual(talk.hear_again(9, "dry"), "done")
            self.assertEqual(told(talk), ("stands", ["hello", "cool", "dry"], (0, 9), None, None))

    def test_glare(self):
        for role in ROLES:
            talk = standing(role, [WARM])
            for number, text in ((3, "cool"), (4, "hello"), (5, "warm")):
                self.assertEqual(talk.hear_again(number, text), 491)
                self.assertEqual(told(talk), ("stands", ["hello"], (1, number), "warm", None))
            self.assertEqual(talk.hear_again(5, "cool"), 500)
            self.assertEqual(talk.hear_bye(5), 500)

    def test_a_refreshing_under_way_glares_too(self):
        talk = standing("asker", beats(32))
        self.assertEqual(talk.under_way(), "hello")
        self.assertEqual(talk.hear_again(1, "cool"), 491)

    def test_a_bye_is_done(self):
        for role in ROLES:
            for ahead in ([], [WARM], [WARM, GLARE]):
                talk = standing(role, ahead)
                self.assertEqual(talk.hear_bye(7), "done")
                self.assertEqual(told(talk), ("over", ["hello"], (min(1, len(ahead)), 7), None, None))


class Ends(unittest.TestCase):
    def test_ended_and_gone(self):
        for role in ROLES:
            for way in ("stands", "under way", "to come", "heard"):
                talk = made(role, way)
                own, heard = talk.numbers()
                changes = talk.changes()
                self.assertEqual(talk.end(), [("bye", own + 1)])
                self.assertEqual(told(talk), ("ends", changes, (own + 1, heard), None, None))
                self.assertEqual(talk.end(), [])
                self.assertEqual([talk.beat() for beat in range(200)], [[]] * 200)
                self.assertEqual(talk.change("warm"), [])
                self.assertEqual(talk.gone(), [])
                self.assertEqual(told(talk), ("over", changes, (own + 1, heard), None, None))

    def test_heard_in_ends(self):
        for role in ROLES:
            talk = standing(role, [again(5), END])
            for number in (1, 5, 9):
                self.assertEqual(talk.hear_again(number, "warm"), 481)
                self.assertEqual(told(talk), ("ends", ["hello", "cool"], (1, 5), None, None))
            for number in (1, 5, 9):
                twin = talk.twin()
                self.assertEqual(twin.hear_bye(number), "done")
                self.assertEqual(told(twin), ("over", ["hello", "cool"], (1, max(5, number)), None, None))

    def test_in_over_all_is_nothing(self):
        for role in ROLES:
            for way in ("over", "over of a bye", "over of 481", "over of late"):
                talk = made(role, way)
                for number in (1, 5, 9):
                    self.assertEqual((talk.hear_again(number, "dry"), talk.hear_bye(number)), (481, 481))
                lists = [talk.held(), talk.end(), talk.change("dry"), talk.answered("done"), talk.gone(), talk.beat()]
                self.assertEqual(lists, [[]] * 6)
                self.assertEqual(talk, made(role, way))


class Refreshing(unittest.TestCase):
    def asks(self, talk, many):
        """The beats, of so many, at which something is told, with what."""
        rows = [(beat, talk.beat()) for beat in range(1, many + 1)]
        return [row for row in rows if row[1]]

    def test_behind_32_beats(self):
        talk = standing("asker")
        self.assertEqual(self.asks(talk, 100), [(32, [("again", 1, "hello")])])
        self.assertEqual(told(talk), ("stands", ["hello"], (1, 0), "hello", None))
        talk.answered("done")
        self.assertEqual(told(talk), ("stands", ["hello"], (1, 0), None, None))
        self.assertEqual(self.asks(talk, 100), [(32, [("again", 2, "hello")])])

    def test_with_the_last_text(self):
        self.assertEqual(self.asks(standing("asker", [again(1)]), 32), [(32, [("again", 1, "cool")])])
        self.assertEqual(self.asks(standing("asker", [WARM, DONE]), 32), [(32, [("again", 2, "warm")])])

    def test_counted_from_what_was_done_of_its_own(self):
        talk = standing("asker", beats(20) + [WARM] + beats(3) + [DONE])
        self.assertEqual(self.asks(talk, 40), [(32, [("again", 2, "warm")])])

    def test_not_from_what_was_refused_or_heard(self):
        for deeds in ([WARM, ("answered", 500)], [again(1, "hello")], [WARM, GLARE, again(1)]):
            talk = standing("asker", beats(20) + deeds)
            self.assertEqual([beat for beat, what in self.asks(talk, 12)], [12])

    def test_at_the_first_beat_with_nothing_under_way(self):
        talk = standing("asker", beats(31) + [WARM])
        self.assertEqual(self.asks(talk, 9), [])
        talk.answered(500)
        self.assertEqual(talk.beat(), [("again", 2, "hello")])

    def test_at_the_first_beat_with_nothing_to_come(self):
        talk = standing("asker", beats(30) + [WARM, GLARE])
        self.assertEqual(self.asks(talk, 9), [(5, [("again", 2, "warm")])])
        talk.answered(500)
        self.assertEqual(talk.beat(), [("again", 3, "hello")])
        talk = standing("asker", beats(30) + [WARM, GLARE] + beats(3) + [again(1)])
        self.assertEqual(talk.beat(), [("again", 2, "cool")])

    def test_what_comes_again_goes_ahead_of_it(self):
        talk = standing("asker", beats(27) + [WARM, GLARE])
        self.assertEqual(self.asks(talk, 20), [(5, [("again", 2, "warm")])])

    def test_a_refused_one_is_counted_from_its_first_asking(self):
        talk = standing("asker", beats(32) + [BEAT, GLARE])
        self.assertEqual(talk.to_come(), "hello")
        self.assertEqual(self.asks(talk, 9), [(5, [("again", 2, "hello")])])
        talk.answered(500)
        # Ten beats are behind its first asking.
        self.assertEqual(self.asks(talk, 40), [(22, [("again", 3, "hello")])])

    def test_one_that_was_let_go_is_counted(self):
        talk = standing("asker", beats(32) + [("answered", 500)])
        self.assertEqual(self.asks(talk, 40), [(32, [("again", 2, "hello")])])
        talk = standing("asker", beats(32) + [GLARE, BEAT, again(1)])
        self.assertEqual(self.asks(talk, 40), [(31, [("again", 2, "cool")])])

    def test_an_asked_one_refreshes_nothing(self):
        self.assertEqual(self.asks(standing("asked"), 95), [])

    def test_alone_an_askers_talk_is_over_behind_48_beats(self):
        talk = standing("asker", beats(48) + [LATE])
        self.assertEqual(talk.state(), "over")


class Unheard(unittest.TestCase):
    def ends_at(self, talk):
        """The beat behind which an asked one's talk ends."""
        for beat in range(1, 200):
            if talk.beat() and talk.state() == "ends":
                return beat
        return None

    def test_behind_96_beats_from_its_standing(self):
        self.assertEqual(self.ends_at(standing("asked")), 96)
        self.assertEqual(self.ends_at(done(Talk("asked", "hello"), beats(15) + [HELD])), 96)
        talk = standing("asked", beats(95))
        self.assertEqual(talk.beat(), [("bye", 1)])
        self.assertEqual(told(talk), ("ends", ["hello"], (1, 0), None, None))

    def test_from_an_again_with_a_greater_number(self):
        self.assertEqual(self.ends_at(standing("asked", beats(50) + [again(1)])), 96)
        self.assertEqual(self.ends_at(standing("asked", beats(50) + [again(1, "hello")])), 96)
        self.assertEqual(self.ends_at(standing("asked", [again(5)] + beats(50) + [again(5)])), 46)
        self.assertEqual(self.ends_at(standing("asked", [again(5)] + beats(50) + [again(4, "dry")])), 46)

    def test_from_one_that_glares_too(self):
        talk = standing("asked", beats(50) + [WARM])
        self.assertEqual(talk.hear_again(1, "cool"), 491)
        self.assertEqual(self.ends_at(talk), 96)

    def test_from_one_of_its_own_done(self):
        self.assertEqual(self.ends_at(standing("asked", beats(50) + [WARM] + beats(4) + [DONE])), 96)
        self.assertEqual(self.ends_at(standing("asked", beats(50) + [WARM, ("answered", 500)])), 46)
        self.assertEqual(self.ends_at(standing("asked", beats(50) + [WARM])), 46)

    def test_the_end_goes_ahead_of_what_comes_again(self):
        talk = standing("asked", beats(94) + [WARM, GLARE, BEAT])
        self.assertEqual(talk.beat(), [("bye", 2)])
        self.assertEqual(told(talk), ("ends", ["hello"], (2, 0), None, None))

    def test_an_askers_talk_never_ends_so(self):
        self.assertIsNone(self.ends_at(standing("asker")))


class Without(unittest.TestCase):
    def test_hold(self):
        talk = Talk("asked", "hello", without=("hold",))
        said = [beat for beat in range(1, 300) if talk.beat() == [("taken",)]]
        self.assertEqual(said, [1, 3, 7, 11, 15])
        self.assertEqual(told(talk), ("waits", ["hello"], (0, 0), None, None))
        talk.held()
        self.assertEqual([talk.beat() for beat in range(96)], [[]] * 95 + [[("bye", 1)]])

    def test_refresh(self):
        talk = standing("asked", without=("refresh",))
        self.assertEqual([talk.beat() for beat in range(300)], [[]] * 300)
        self.assertEqual(talk.state(), "stands")
        self.assertEqual(standing("asker", beats(31), ("refresh",)).beat(), [("again", 1, "hello")])

    def test_late(self):
        for role in ROLES:
            for answer in (408, "late"):
                talk = standing(role, [WARM, ("answered", answer)], ("late",))
                self.assertEqual(told(talk), ("stands", ["hello"], (1, 0), None, None))
            self.assertEqual(standing(role, [WARM, ("answered", 481)], ("late",)).state(), "over")
            self.assertEqual(standing(role, [END, GONE], ("late",)).state(), "over")

    def test_glare(self):
        for role in ROLES:
            talk = standing(role, [WARM], ("glare",))
            self.assertEqual(talk.hear_again(1, "cool"), "done")
            self.assertEqual(told(talk), ("stands", ["hello", "cool"], (1, 1), "warm", None))
            talk.answered("done")
            self.assertEqual(told(talk), ("stands", ["hello", "cool", "warm"], (1, 1), None, None))
            self.assertEqual(standing(role, [again(5), WARM], ("glare",)).hear_again(5, "dry"), 500)
            self.assertEqual(standing(role, [WARM, GLARE], ("glare",)).to_come(), "warm")

    def test_number(self):
        for role in ROLES:
            talk = standing(role, [again(5)], ("number",))
            for number, text in ((5, "dry"), (4, "cool"), (1, "cool")):
                self.assertEqual(talk.hear_again(number, text), "done")
            self.assertEqual(told(talk), ("stands", ["hello", "cool", "dry", "cool"], (0, 5), None, None))
            self.assertEqual(standing(role, [again(5), WARM], ("number",)).hear_again(5, "dry"), 491)
            self.assertEqual(talk.hear_bye(1), "done")
            self.assertEqual(told(talk), ("over", ["hello", "cool", "dry", "cool"], (0, 5), None, None))

    def test_other_rules_left_out_are_unlike(self):
        for role in ROLES:
            for first in RULES:
                self.assertNotEqual(Talk(role, "hello"), Talk(role, "hello", without=(first,)))
                self.assertEqual(Talk(role, "hello", without=(first,)), Talk(role, "hello", without=(first,)))
                for second in RULES:
                    if first != second:
                        one, two = (first, second), (second, first)
                        self.assertNotEqual(Talk(role, "hello", without=(first,)), Talk(role, "hello", without=(second,)))
                        self.assertNotEqual(Talk(role, "hello", without=(first,)), Talk(role, "hello", without=one))
                        self.assertEqual(Talk(role, "hello", without=one), Talk(role, "hello", without=two))


class Alike(unittest.TestCase):
    def test_a_twin_goes_on_by_itself(self):
        for without in ((), ("glare", "number"), ("hold", "late", "refresh")):
            for role, way in WAYS:
                for deed in DEEDS:
                    talk = made(role, way, without)
                    twin = talk.twin()
                    self.assertIsInstance(twin, Talk)
                    self.assertTrue(twin == talk)
                    self.assertFalse(twin != talk)
                    what = tried(twin, deed)
                    self.assertEqual(talk, made(role, way, without), (role, way, deed))
                    self.assertEqual(told(talk), told(made(role, way, without)), (role, way, deed))
                    self.assertEqual(tried(talk, deed), what, (role, way, deed))
                    self.assertEqual(talk, twin, (role, way, deed))

    def test_twins_stay_alike_as_long_as_both_do_the_same(self):
        for role, way in WAYS:
            talk = made(role, way)
            twin = talk.twin()
            for deed in beats(40) + [DONE, again(9, "dry"), WARM, GLARE] + beats(120):
                self.assertEqual(tried(talk, deed), tried(twin, deed))
                self.assertEqual(talk, twin)

    def test_unlike_where_anything_told_is(self):
        talks = [made(role, way) for role, way in WAYS] + [Talk("asker", "warm"), Talk("asked", "warm")]
        for first in talks:
            for second in talks:
                if (first.role(), told(first)) != (second.role(), told(second)):
                    self.assertFalse(first == second)
                    self.assertTrue(first != second)

    def test_unlike_where_one_thing_told_alone_is(self):
        pairs = [
            ([again(1, "hello")], [again(2, "hello")]),
            ([WARM, ("answered", 500)], []),
            ([WARM], [COOL]),
            ([WARM, GLARE], [COOL, GLARE]),
            ([WARM, ("answered", 500)], [WARM]),
            ([WARM, GLARE], [WARM, ("answered", 500)]),
            ([again(1, "warm")], [again(1, "cool")]),
            ([END], [END, GONE]),
        ]
        for role in ROLES:
            for first, second in pairs:
                self.assertFalse(standing(role, first) == standing(role, second), (role, first, second))
                self.assertTrue(standing(role, first) != standing(role, second), (role, first, second))

    def test_unlike_where_beats_are_that_count(self):
        self.assertNotEqual(standing("asker", [BEAT, WARM, GLARE]), standing("asker", [WARM, GLARE, BEAT]))
        for role, way in (("asker", "stands"), ("asked", "stands"), ("asked", "waits"), ("asker", "to come")):
            talk = made(role, way)
            talk.beat()
            self.assertNotEqual(talk, made(role, way))

    def test_things_of_other_kinds(self):
        for role, way in WAYS:
            talk = made(role, way)
            for thing in STRANGE + [Talk, told(talk), Plain(role, "hello")]:
                self.assertIs(talk == thing, False)
                self.assertIs(talk != thing, True)


class Told(unittest.TestCase):
    def test_what_was_told_is_the_askers_own(self):
        for role, way in WAYS:
            for deed in DEEDS:
                talk, like = made(role, way), made(role, way)
                what = tried(talk, deed)
                if isinstance(what, list):
                    spoil(what)
                tried(like, deed)
                spoil(talk.changes())
                self.assertEqual(talk, like)
                self.assertEqual(told(talk), told(like))

    def test_what_comes_later_changes_nothing_told(self):
        talk = standing("asker")
        changes = talk.changes()
        done(talk, [WARM, DONE])
        self.assertEqual(changes, ["hello"])

    def test_rules_handed_in_are_not_kept(self):
        rules = ["glare"]
        talk = Talk("asker", "hello", without=rules)
        rules.append("number")
        self.assertEqual(talk, Talk("asker", "hello", without=("glare",)))

    def test_what_is_asked_changes_nothing(self):
        for role, way in WAYS:
            talk = made(role, way)
            for once_more in range(3):
                told(talk)
                talk.role()
                talk.twin()
            self.assertEqual(talk, made(role, way))

    def test_kinds(self):
        for role, way in WAYS:
            talk = made(role, way)
            self.assertIsInstance(talk.numbers(), tuple)
            self.assertIsInstance(talk.changes(), list)
