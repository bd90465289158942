"""Pairs and certificates of lives made by chance, held against the slow twins of tests/twins.py (24 to 31)."""

import itertools
import unittest

from carriedfields.comparing import compare, is_paper
from carriedfields.errors import NotNow, TooMany
from carriedfields.pairs import Life, Pair
from carriedfields.worlds import Callers
from making import Maker
from samples import Case
from twins import Twins, joint_of

THINGS = (None, "red", (0, 0), (0, 1), (1, 0), (1, 1), (3, 7))


class ChanceCase(Case):
    def made(self, seed):
        """Two lives with one face, and callers."""
        maker = Maker(seed)
        face = maker.face()
        shape = maker.shape(face)
        one = maker.life(shape, face)
        other = maker.life(maker.pick(shape, shape, maker.shape(face)), face)
        return maker, one, other, maker.callers(face)


class WalksTest(ChanceCase):
    def test_pairs_are_as_their_twins(self):
        for seed in range(400):
            maker, one, other, callers = self.made(seed)
            twins = Twins(one, other, callers)
            pair = Pair(one, other, callers=callers)
            place = twins.first
            for _ in range(8):
                with self.subTest(seed=seed, place=place):
                    self.check_place(pair, twins, place)
                    step = self.any_step(maker, pair)
                    place = self.check_step(pair, twins, place, step)

    def any_step(self, maker, pair):
        name, count, _, _ = maker.pick(*pair.lives.one.shape.face[0])
        call = ("call", name, *[maker.pick(*THINGS) for _ in range(count)])
        return maker.pick(call, ("pass",), maker.pick(*pair.steps(), ("pass",)))

    def check_place(self, pair, twins, place):
        self.assertEqual(repr(joint_of(place)), repr(pair.joint))
        self.assertEqual(repr(((place[0][0], place[2]), (place[1][0], place[2]))), repr(pair.states))
        steps = list(pair.steps())
        self.assertEqual(repr(twins.steps_at(place)), repr(steps))
        again = Pair.set_up(*twins.lives, pair.joint, callers=twins.callers)
        self.assertEqual(repr(pair.joint), repr(again.joint))
        # Renaming keeps the order of the steps, and what becomes of each.
        self.assertEqual(repr(twins.steps_at(pair.joint)), repr(list(again.steps())))
        self.assertEqual(len(steps), len(list(again.steps())))

    def check_step(self, pair, twins, place, step):
        try:
            wanted, place = twins.do_at(place, step)
        except NotNow as error:
            self.check_raises(NotNow, {"name": error.name}, pair.do, step)
            self.check_raises(NotNow, {"name": error.name}, pair.play, (step,))
        else:
            self.assertEqual(repr(wanted), repr(pair.do(step)))
        return place


class SearchTest(ChanceCase):
    def test_certificates_are_those_of_the_twins(self):
        told = {"alike": 0, "parted": 0}
        for seed in range(1000, 1500):
            _, one, other, callers = self.made(seed)
            twins = Twins(one, other, callers)
            layers, is_parted = twins.search()
            count = sum(len(layer) for layer in layers)
            if count > 150:
                continue
            with self.subTest(seed=seed):
                paper = compare(one, other, callers=callers, most=count)
                told[paper[0]] += 1
                self.assertEqual("parted" if is_parted else "alike", paper[0])
                if is_parted:
                    self.assertEqual(len(layers), len(paper[1]))
                else:
                    joints = [joint for layer in layers for joint in layer]
                    self.assertEqual(sorted(map(repr, joints)), sorted(map(repr, paper[1])))
                self.assertIs(True, is_paper(one, other, paper, callers=callers))
                self.assertTrue(twins.is_paper(paper))
                if count > 1:
                    self.check_raises(TooMany, {"what": "joints"}, compare, one, other, callers=callers, most=count - 1)
                self.assertEqual(paper[0], compare(other, one, callers=callers, most=2000)[0])
        self.assertGreater(min(told.values()), 100)

    def test_papers_with_changes(self):
        told = {True: 0, False: 0}
        for seed in range(2000, 2300):
            maker, one, other, callers = self.made(seed)
            twins = Twins(one, other, callers)
            layers, is_parted = twins.search()
            if is_parted is None or sum(len(layer) for layer in layers) > 40:
                continue
            good = compare(one, other, callers=callers)
            for _ in range(8):
                paper = self.changed(maker, twins, good)
                with self.subTest(seed=seed, paper=paper):
                    wanted = twins.is_paper(paper)
                    told[wanted] += 1
                    self.assertIs(wanted, is_paper(one, other, paper, callers=callers))
        self.assertGreater(min(told.values()), 100)

    def changed(self, maker, twins, paper):
        """A certificate with a change."""
        parts = list(paper[1])
        way = maker.pick("drop", "add", "change", "turn", "twice")
        at = maker.pick(*range(len(parts)))
        if way == "drop":
            del parts[at]
        elif way == "turn":
            parts.reverse()
        elif way == "twice":
            parts.insert(maker.pick(*range(len(parts))), parts[at])
        elif paper[0] == "alike":
            entry = self.any_joint(maker, twins)
            parts[at:at + (way == "change")] = [entry]
        else:
            name, count, _, _ = maker.pick(*twins.lives[0].shape.face[0])
            step = maker.pick(("pass",), ("call", name, *[maker.pick(*THINGS) for _ in range(count)]))
            parts[at:at + (way == "change")] = [step]
        return (paper[0], tuple(parts))

    def any_joint(self, maker, twins):
        """Something that often is a joint world."""
        sides = []
        for life in twins.lives:
            moved = maker.pick(True, False) and twins.moves(life)
            values = []
            for _, level in twins.shape_of(life, moved).fields:
                plain = maker.pick(None, "red", (0, 0), (0, 1), (1, 0), (0, -1), (1, -1))
                values.append(maker.pick(None, ("page", maker.pick(None, 0, "red"))) if level else plain)
            sides.append((tuple(values), moved))
        times = twins.callers.times
        left = None if times is None else maker.pick(*range(times + 1))
        place = (*sides, maker.pick(False, False, True), left)
        return maker.pick(place, joint_of(place), joint_of(place))


class HistoriesTest(ChanceCase):
    """The meaning of certificates: all histories of some length, with any things and not the choices alone."""

    THINGS = (None, "red", (0, 0), (0, 1), (1, 0))

    def histories(self, face, length):
        steps = [("pass",)]
        for name, count, _, _ in face:
            steps.extend(("call", name, *things) for things in itertools.product(self.THINGS, repeat=count))
        for size in range(1, length + 1):
            yield from itertools.product(steps, repeat=size)

    def test_histories_of_three_steps(self):
        told = {"alike": 0, "parted": 0}
        for seed in range(3000, 3100):
            _, one, other, callers = self.made(seed)
            face = one.shape.face[0]
            if sum(len(self.THINGS) ** count for _, count, _, _ in face) > 12:
                continue
            try:
                paper = compare(one, other, callers=callers)
            except TooMany:
                continue
            told[paper[0]] += 1
            shortest = None
            for history in self.histories(face, 3):
                if is_paper(one, other, ("parted", history), callers=callers):
                    shortest = len(history)
                    break
            with self.subTest(seed=seed):
                if paper[0] == "alike":
                    self.assertIsNone(shortest)
                elif len(paper[1]) <= 3:
                    self.assertEqual(len(paper[1]), shortest)
        self.assertGreater(min(told.values()), 10)

    def test_long_walks_of_lives_that_are_alike(self):
        count = 0
        for seed in range(4000, 4150):
            maker, one, other, _ = self.made(seed)
            callers = Callers(times=maker.pick(None, 1), look=maker.pick("equal", "same"))
            try:
                paper = compare(one, other, callers=callers)
            except TooMany:
                continue
            if paper[0] == "parted":
                continue
            pair = Pair(one, other, callers=callers)
            for _ in range(25):
                name, number, _, _ = maker.pick(*one.shape.face[0])
                step = maker.pick(("pass",), ("call", name, *[maker.pick(*THINGS) for _ in range(number)]))
                try:
                    sights = pair.do(step)
                except NotNow:
                    continue
                count += 1
                self.assertTrue(sights is None or sights[0] == sights[1], seed)
                self.assertIn(pair.joint, paper[1])
        self.assertGreater(count, 500)

    def test_a_life_is_alike_itself(self):
        for seed in range(5000, 5100):
            _, one, _, callers = self.made(seed)
            for route in (None, one.route):
                life = Life(one.shape, route)
                try:
                    self.assertEqual("alike", compare(life, life, callers=callers)[0])
                except TooMany:
                    continue


if __name__ == "__main__":
    unittest.main()
