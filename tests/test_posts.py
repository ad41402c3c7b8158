"""Posts: which letters are of kind again, and what else devices and houses rest on."""

import unittest

from ringingcalls.posts import Post
from tests.helper import answer, ask, held, sure

TALK = (("ann", 0), "bob", 0)


class OfAgain(unittest.TestCase):
    def setUp(self):
        self.post = Post("hub")
        self.post.receive(("ann", 0), "again")
        self.post.receive(("ann", 1), "bye")
        self.post.receive(("ann", 2), "ring")

    def test_asks(self):
        self.assertTrue(self.post.is_of_again(ask("hub", "ann", 0, "again", TALK, 1, (), "warm")))
        self.assertFalse(self.post.is_of_again(ask("hub", "ann", 0, "bye", TALK, 1, ())))
        self.assertFalse(self.post.is_of_again(ask("hub", "ann", 0, "stop", 0)))

    def test_answers(self):
        told = [self.post.is_of_again(answer("hub", "ann", number, "no", 481)) for number in range(4)]
        self.assertEqual(told, [True, False, False, False])
        self.assertFalse(self.post.is_of_again(answer("hub", "bob", 0, "done")))

    def test_sures_and_helds_are_none(self):
        # The numbers of a sure are this one's own, those of an answer the other's.
        self.assertFalse(self.post.is_of_again(sure("hub", "ann", 0)))
        self.assertFalse(self.post.is_of_again(held("hub", "ann", TALK)))


class Said(unittest.TestCase):
    def test_the_last_thing_that_went_out_goes_out_again(self):
        post = Post("hub")
        post.receive(("ann", 0), "ring")
        self.assertEqual(post.say_again(("ann", 0)), [])
        self.assertEqual(post.answer(("ann", 0), ("no", 486)), [answer("hub", "ann", 0, "no", 486)])
        for what in (("no", 487), ("rings", "hub", ()), ("taken", "bob", 0, ())):
            self.assertEqual(post.answer(("ann", 0), what), [])
            self.assertEqual(post.say_again(("ann", 0)), [answer("hub", "ann", 0, "no", 486)])
