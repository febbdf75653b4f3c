"""Points 9 to 12 over what is asked of a single program: rows put around or ahead, and other names."""

import random
import unittest

from movedchecks.alike import are_alike
from movedchecks.compilers import is_sound, outcomes, steps, unsound
from movedchecks.errors import MoveError
from movedchecks.joins import joinable, pairs, spare
from movedchecks.lots import barring, greatest_lots, needing, right_lots
from movedchecks.places import earliest, place_parting, places, reach
from movedchecks.programs import Program
from tests.cases import Case
from tests.makers import Dense
from tests.sheets import checks_of, or_error, plain_addresses, with_words

TABLE = {"a": "b", "b": "a", "f": "g", "g": "f", "c": "d", "d": "c"}
RULES = [("pass", "check", "write"), ("pass", "write", "read"), ("pass", "make", "check"), ("once", "check"), ("spare",)]


def turned(one):
    """The program with its made names exchanged one to one."""
    names = one.names()
    return one.renamed({**{name: name for name in one.inputs}, **dict(zip(names, names[1:] + names[:1]))})


def with_other_words(one):
    return Program(one.inputs, [with_words(row, TABLE) for row in one.rows()])


class NamesTest(Case):
    def answers(self, one, seed):
        """What is told of a program in which names do not stand."""
        chance = random.Random(seed)
        found = []
        for address in plain_addresses(one):
            found += [reach(one, address), places(one, address), earliest(one, address)]
            found += [place_parting(one, address, gap) is None for gap in reach(one, address)[:3]]
        found += [pairs(one), joinable(one), spare(one)]
        deeds = [("out", address) for address in checks_of(one)[:2]]
        left = [address for address in plain_addresses(one) if ("out", address) not in deeds]
        deeds += [("move", address, chance.choice(one.gaps())) for address in chance.sample(left, min(2, len(left)))]
        found += [right_lots(one, deeds), greatest_lots(one, deeds), barring(one, deeds), needing(one, deeds)]
        for rules in (RULES[:2], RULES[2:]):
            found.append(steps(one, rules))
            found.append(or_error(lambda: is_sound(one, rules)))
            found.append(or_error(lambda: len(outcomes(one, rules))))
            found.append(or_error(lambda: unsound(one, rules) and len(unsound(one, rules)[0])))
        return found

    def test_made_names(self):
        for seed in range(8):
            one = Dense(seed).dense(11)
            found = self.answers(one, seed)
            self.assertEqual(self.answers(turned(one), seed), found)
            self.assertEqual(self.answers(one, seed), found)

    def test_inputs_words_and_channels(self):
        for seed in range(8):
            one = Dense(seed).dense(11)
            self.assertEqual(self.answers(with_other_words(one), seed), self.answers(one, seed))

    def test_partings(self):
        told = 0
        for seed in range(20):
            one = Dense(seed).dense(11)
            other = turned(one)
            for address in plain_addresses(one):
                for gap in reach(one, address):
                    self.assertEqual(place_parting(one, address, gap), place_parting(other, address, gap))
                    told += 1
        self.assertGreater(told, 300)


class AroundTest(Case):
    def test_places_stay_places(self):
        """Point 11: what is alike stays so within a loop or an if, and behind rows that are ahead of both."""
        told = 0
        ahead = [("write", "c", ["a"]), ("read", "zz", "c"), ("make", "zy", "f", ["zz"]), ("check", "zy")]
        for seed in range(30):
            one = Dense(seed).dense(9)
            for address in plain_addresses(one)[::2]:
                for gap in places(one, address):
                    both = (one, one.moved(address, gap))
                    for around in (lambda rows: [("loop", [], rows)], lambda rows: [("if", [], rows, [])], lambda rows: ahead + rows):
                        try:
                            programs = [Program(part.inputs, around(part.rows())) for part in both]
                        except MoveError:
                            continue
                        self.assertIs(are_alike(*programs, most=20000), True)
                        told += 1
        self.assertGreater(told, 300)


if __name__ == "__main__":
    unittest.main()
