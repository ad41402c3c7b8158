"""Ends: the best of several noes, and the ranks that the program tells by itself."""

import unittest

from ringingcalls import ends
from ringingcalls.things import is_rank


class Best(unittest.TestCase):
    def test_of_none(self):
        self.assertIsNone(ends.best_no([]))

    def test_the_least_of_all_below_600(self):
        self.assertEqual(ends.best_no([486]), 486)
        self.assertEqual(ends.best_no([599, 404, 300, 486]), 300)

    def test_the_least_from_600_on_where_there_is_one(self):
        self.assertEqual(ends.best_no([300, 600]), 600)
        self.assertEqual(ends.best_no([699, 300, 603, 599, 650]), 603)

    def test_the_list_stays(self):
        ranks = [500, 400, 600]
        ends.best_no(ranks)
        self.assertEqual(ranks, [500, 400, 600])

    def test_shutting(self):
        told = [ends.is_shutting(rank) for rank in (300, 599, 600, 699)]
        self.assertEqual(told, [False, False, True, True])


class Ranks(unittest.TestCase):
    def test_each_is_a_rank(self):
        told = [ends.LATE_RANK, ends.GONE_RANK, ends.GIVEN_UP_RANK, ends.GLARE_RANK, ends.OLD_RANK]
        self.assertEqual(told, [408, 481, 487, 491, 500])
        self.assertTrue(all(is_rank(rank) for rank in told))
