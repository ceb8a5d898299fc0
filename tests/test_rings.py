"""lostplaces.rings: [4.7] to [4.9], and [4.12]."""

import unittest

from lostplaces.rings import (
    least_rotation, odd_rings, repeats_of, rings_for, rotations_of, single_rings,
)
from lostplaces.sizes import size_of
from tests.helper import (
    NO_NUMBERS, NO_SEQUENCES, caught, chance_words, every_word, every_word_up_to, made_of_tuples,
)


def digits(*texts):
    """The words of two letters with these texts."""
    return tuple(tuple(int(sign) for sign in text) for text in texts)


def plain_repeats(word):
    """The greatest number of equal parts that make the word."""
    return max(parts for parts in range(1, len(word) + 1)
               if len(word) % parts == 0 and word[:len(word) // parts] * parts == word)


class Rotations(unittest.TestCase):
    """[4.7]."""

    def test_against_plain_rotations(self):
        words = every_word_up_to(2, 7) + every_word_up_to(4, 3) + chance_words(3, 4, 24, 3)
        for word in words + [(0, 1) * 12, (3,) * 24, (0, 1, 1) * 8]:
            if word:
                rotations = [word]
                for _ in range(len(word) - 1):
                    rotations.append(rotations[-1][1:] + rotations[-1][:1])
                self.assertEqual(rotations_of(list(word)), tuple(rotations))
                self.assertEqual(least_rotation(list(word)), min(rotations))
                self.assertEqual(repeats_of(list(word)), plain_repeats(word))
                self.assertEqual(repeats_of(word), rotations.count(word))

    def test_values(self):
        self.assertEqual(rotations_of([0, 1, 0, 1]), digits("0101", "1010", "0101", "1010"))
        self.assertEqual(repeats_of([0, 1, 0, 1]), 2)
        self.assertEqual(rotations_of([2]), ((2,),))
        self.assertEqual((least_rotation([2]), repeats_of([2])), ((2,), 1))
        self.assertEqual(repeats_of([1] * 24), 24)
        self.assertTrue(made_of_tuples((rotations_of([1, 0]), least_rotation([1, 0]))))

    def test_errors(self):
        for call in (rotations_of, least_rotation, repeats_of):
            for thing in NO_SEQUENCES + ([], (), [0] * 25):
                self.assertEqual(caught(call, thing), ("BadWord", -1))
            self.assertEqual(caught(call, [0, 4]), ("BadWord", 1))
            self.assertEqual(caught(call, [3, 3, True]), ("BadWord", 2))
            self.assertEqual(caught(call, [-1]), ("BadWord", 0))


class Rings(unittest.TestCase):
    """[4.8] and [4.9]."""

    def test_example(self):
        self.assertEqual(odd_rings(5), digits("00001", "00111", "01011", "11111"))
        self.assertEqual(rings_for(4, 0), odd_rings(5))
        self.assertEqual(rings_for(4, 1), odd_rings(5)[:3])
        self.assertEqual(repeats_of(odd_rings(5)[3]), 5)

    def test_odd_rings(self):
        for length in range(1, 11):
            found = {min(word[k:] + word[:k] for k in range(length))
                     for word in every_word(2, length) if sum(word) % 2}
            self.assertEqual(odd_rings(length), tuple(sorted(found)))
            singles = [ring for ring in found if plain_repeats(ring) == 1]
            self.assertEqual(single_rings(length), len(singles))

    def test_as_many_rings_as_members(self):
        for length in range(10):
            for rest in range(length + 1):
                rings = rings_for(length, rest)
                self.assertEqual(len(rings), size_of(length, rest))
                wanted = [ring for ring in odd_rings(length + 1) if rest % plain_repeats(ring) == 0]
                self.assertEqual(rings, tuple(wanted))

    def test_sizes_by_single_rings(self):
        for length in list(range(40)) + [104, 134, 200]:
            for rest in range(length + 1):
                total = sum(single_rings((length + 1) // part) for part in range(1, length + 2, 2)
                            if (length + 1) % part == 0 and rest % part == 0)
                self.assertEqual(total, size_of(length, rest))

    def test_edges(self):
        self.assertEqual(odd_rings(1), ((1,),))
        self.assertEqual(rings_for(0, 0), ((1,),))
        self.assertEqual(rings_for(1, 1), ((0, 1),))
        self.assertEqual(single_rings(1), 1)
        self.assertTrue(all(single_rings(length) > 0 for length in range(1, 202)))
        self.assertTrue(made_of_tuples((odd_rings(6), rings_for(5, 3))))

    def test_errors(self):
        for bad in (0, -1, 11) + NO_NUMBERS:
            self.assertEqual(caught(odd_rings, bad), ("BadNumber",))
        for bad in (0, -1, 202) + NO_NUMBERS:
            self.assertEqual(caught(single_rings, bad), ("BadNumber",))
        for bad in (-1, 10) + NO_NUMBERS:
            self.assertEqual(caught(rings_for, bad, None), ("BadNumber",))
            self.assertEqual(caught(rings_for, 9, bad), ("BadRest",))
        self.assertEqual(caught(rings_for, 0, 1), ("BadRest",))


if __name__ == "__main__":
    unittest.main()
