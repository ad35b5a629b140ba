"""Rows of deeds: what they tell of each part, and the orders in which they come to the same book."""

import itertools
import random
import unittest

from helper import BOOK, CROSSED, Ledger, drawn_deeds, every_deed, own_pairs, own_things
from twainkeep.books import EMPTY, is_book
from twainkeep.deeds import all_done, done, is_deed
from twainkeep.errors import TwainError
from twainkeep.keeper import Keeper
from twainkeep.states import in_step, lacking, stale, state_of, states
from twainkeep.touching import keeps, meeting, touched

BOOKS = (BOOK, CROSSED, EMPTY)


def touched_by_each(book, deeds, places):
    """What the deeds touch when done in the order of places, by the place of each."""
    told = {}
    for place in places:
        told[place] = touched(book, deeds[place])
        book = done(book, deeds[place])
    return told


def told_by_each(book, deeds, places):
    """The pairs that the deeds tell when done in the order of places, by the place of each."""
    keeper = Keeper(book)
    told = {}
    for place in places:
        count = len(keeper.pairs())
        keeper.do(deeds[place])
        if len(keeper.pairs()) > count:
            told[place] = keeper.pairs()[-1]
    return told


class StatesByTheDeedsTest(unittest.TestCase):
    def check_states(self, book, ledger):
        own = tuple(tuple((name, ledger.state(name)) for name in row) for row in ledger.rows)
        self.assertEqual(states(book), own)
        told = dict(own[0] + own[1])
        for name, state in told.items():
            self.assertEqual(state_of(book, name), state)
        self.assertEqual(lacking(book), tuple(tuple(name for name in row if told[name] == ("lacking",))
                                              for row in ledger.rows))
        since = sorted((state[1], name) for name, state in told.items() if len(state) == 2)
        self.assertEqual(stale(book), tuple((name, moment) for moment, name in since))
        self.assertEqual(in_step(book), {state[0] for state in told.values()} <= {"step", "alone"})

    def test_behind_each_deed_of_many_rows(self):
        seen = set()
        for seed in range(60):
            start = BOOKS[seed % 3]
            book, ledger = start, Ledger(start)
            deeds = drawn_deeds(seed, start, 40)
            for deed in deeds:
                self.assertIs(is_deed(deed), True, deed)
                book = done(book, deed)
                ledger.do(deed)
                self.assertEqual(book, ledger.book(), (seed, deed))
                self.check_states(book, ledger)
                seen.update((deed[0], state[0]) for name, state in states(book)[0] + states(book)[1])
            self.assertIs(is_book(book), True)
            self.assertEqual(all_done(start, deeds), book)
        # The rows are worth something only if every deed and every state comes in them.
        self.assertEqual(len(seen), 12 * 4)


class OrdersTest(unittest.TestCase):
    def own_meeting(self, book, deeds):
        things = own_things(book, deeds)
        return tuple((i, j) for i, j in itertools.combinations(range(len(deeds)), 2) if things[i] & things[j])

    def check_order(self, book, deeds, places, behind, told):
        self.assertIs(keeps(book, deeds, places), True, (deeds, places))
        self.assertEqual(all_done(book, [deeds[place] for place in places]), behind, (deeds, places))
        self.assertEqual(touched_by_each(book, deeds, places), told, (deeds, places))
        pairs = own_pairs(book, deeds)
        self.assertEqual(told_by_each(book, deeds, places), pairs, (deeds, places))
        return len(pairs)

    def test_every_order_that_keeps(self):
        orders, pairs_told = 0, 0
        for seed in range(100, 160):
            book = BOOKS[seed % 3]
            deeds = drawn_deeds(seed, book, 5)
            pairs = self.own_meeting(book, deeds)
            self.assertEqual(meeting(book, deeds), pairs, deeds)
            behind, told = all_done(book, deeds), touched_by_each(book, deeds, range(5))
            for places in itertools.permutations(range(5)):
                if all(places.index(i) < places.index(j) for i, j in pairs):
                    pairs_told += self.check_order(book, deeds, places, behind, told)
                    orders += 1
                else:
                    self.assertIs(keeps(book, deeds, places), False, (deeds, places))
        self.assertGreater(orders, 1000)
        self.assertGreater(pairs_told, 500)

    def drawn_order(self, draw, count, pairs):
        places = []
        while len(places) < count:
            free = [k for k in range(count) if k not in places and all(i in places for i, j in pairs if j == k)]
            places.append(draw.choice(free))
        return tuple(places)

    def test_orders_of_longer_rows(self):
        for seed in range(200, 230):
            book = BOOKS[seed % 3]
            deeds = drawn_deeds(seed, book, 25)
            pairs = self.own_meeting(book, deeds)
            self.assertEqual(meeting(book, deeds), pairs, deeds)
            behind, told = all_done(book, deeds), touched_by_each(book, deeds, range(25))
            draw = random.Random(seed)
            for turn in range(8):
                self.check_order(book, deeds, self.drawn_order(draw, 25, pairs), behind, told)


class TwoDeedsTest(unittest.TestCase):
    def can_be_done(self, book, deeds):
        found = {}
        for deed in deeds:
            try:
                found[deed] = (touched(book, deed), done(book, deed))
            except TwainError:
                pass
        return found

    def some_of_each_word(self, draw, deeds, count):
        by_word = {}
        for deed in deeds:
            by_word.setdefault(deed[0], []).append(deed)
        return [deed for found in by_word.values() for deed in draw.sample(found, min(count, len(found)))]

    def each_book(self):
        draw = random.Random(7)
        for book, names in ((BOOK, "abcdegpqrstx"), (CROSSED, "klmnxyzab")):
            deeds = every_deed(sorted(names), 6, most=2)
            ahead = self.can_be_done(book, deeds)
            yield draw, book, deeds, ahead, self.some_of_each_word(draw, ahead, 8)

    def test_both_can_be_done_ahead_and_do_not_meet(self):
        for draw, book, deeds, ahead, some in self.each_book():
            apart = 0
            for a, b in itertools.combinations(some, 2):
                if set(ahead[a][0]) & set(ahead[b][0]):
                    continue
                apart += 1
                self.assertEqual(touched(ahead[a][1], b), ahead[b][0], (a, b))
                self.assertEqual(touched(ahead[b][1], a), ahead[a][0], (a, b))
                self.assertEqual(done(ahead[a][1], b), done(ahead[b][1], a), (a, b))
            self.assertGreater(apart, 500)

    def test_the_second_can_be_done_behind_the_first_and_does_not_meet_it(self):
        for draw, book, deeds, ahead, some in self.each_book():
            apart = 0
            for a in some:
                later = self.some_of_each_word(draw, deeds, 15)
                for b, (things, behind) in self.can_be_done(ahead[a][1], later).items():
                    if set(ahead[a][0]) & set(things):
                        continue
                    apart += 1
                    self.assertEqual(touched(book, b), things, (a, b))
                    self.assertEqual(all_done(book, (b, a)), behind, (a, b))
            self.assertGreater(apart, 500)


if __name__ == "__main__":
    unittest.main()
