"""What the papers are reckoned with: packed numbers, lines over a prime, exact answers (nothing of it is promised)."""

import unittest
from fractions import Fraction

from falsesums.answers import FIRST_PRIME, answer, is_odd_prime, prime_below, rank
from falsesums.degrees import all_products, many_products
from falsesums.fields import common_bottom
from falsesums.lines import Lines
from falsesums.masks import bracket_worths, mask_of
from falsesums.packing import packed, signed_slot, unpacked, unpacked_signed
from tests.helper import PRIMES, fraction_of, products_by_hand, reduced_by_hand, seeded


class Packing(unittest.TestCase):
    def test_there_and_back(self):
        chance = seeded(1)
        for many in (0, 1, 2, 15, 16, 17, 33, 100, 601):
            for width in (1, 2, 8, 64, 113):
                slots = [chance.randrange(1 << width) for _ in range(many)]
                self.assertEqual(unpacked(packed(slots, width), many, width), slots)

    def test_with_numbers_below_nought(self):
        chance = seeded(2)
        for many in (1, 2, 15, 16, 17, 33, 100):
            for width in (2, 8, 64, 113):
                half = 1 << (width - 1)
                for slots in ([chance.randrange(1 - half, half) for _ in range(many)], [1 - half] * many,
                              [half - 1] * many):
                    whole = packed(slots, width)
                    self.assertEqual(unpacked_signed(whole, many, width), slots)
                    self.assertEqual([signed_slot(whole, at, width) for at in range(many)], slots)


class Products(unittest.TestCase):
    def test_all_and_how_many(self):
        for places in (1, 2, 5, 8):
            for size in (-3, -1, 0, 1, 2, 5, 9, 300):
                found = products_by_hand(places, size) if size >= 0 else []
                self.assertEqual(all_products(places, size), found)
                self.assertEqual(many_products(places, size), len(found))
        self.assertEqual(many_products(60, 300), 2 ** 60)

    def test_brackets(self):
        worths = {mask_of(product): 3 ** len(product) * (1 + sum(product)) for product in products_by_hand(4, 4)}
        for places in ((), (2,), (0, 3), (3, 0), (1, 2, 3)):
            for number, worth in enumerate(bracket_worths(worths, places)):
                held = [place for at, place in enumerate(places) if number >> at & 1]
                lacked = [place for place in places if place not in held]
                self.assertEqual(worth, sum((-1) ** len(more) * worths[mask_of(held) | mask_of([lacked[at] for at in more])]
                                            for more in products_by_hand(len(lacked), len(lacked))))

    def test_common_bottom(self):
        self.assertEqual(common_bottom([]), 1)
        self.assertEqual(common_bottom([(1, 2), (5, 6), (-1, 4), (0, 1)]), 12)


class TheLines(unittest.TestCase):
    def test_heads_and_sources(self):
        chance = seeded(3)
        for prime in (2, 7, 97, FIRST_PRIME):
            rows = [[(column, chance.randrange(prime)) for column in range(20) if chance.random() < 0.6]
                    for _ in range(30)]
            lines = Lines(prime, 20)
            for number, row in enumerate(rows):
                lines.take(number, row)
            for at, (head, line) in enumerate(zip(lines.heads, lines.lines)):
                slots = lines.slots(line, 0, 20)
                self.assertEqual([slots[other] for other in lines.heads], [int(other == head) for other in lines.heads])
                shares = lines.slots(line, 20, len(lines.lines))
                totals = [0] * 20
                for source, share in zip(lines.sources, shares):
                    for column, number in rows[source]:
                        totals[column] = (totals[column] + share * number) % prime
                self.assertEqual(totals, slots)


class Answers(unittest.TestCase):
    def looked_at(self, prime, rows, columns):
        word, paper = answer(prime, rows, columns)
        if word == "made":
            totals = [Fraction(0)] * columns
            for number, share in paper.items():
                for column, factor in rows[number]:
                    totals[column] += fraction_of(share) * factor
            totals = [total % prime if prime else total for total in totals]
            self.assertEqual(totals, [1] + [0] * (columns - 1))
        else:
            self.assertEqual((word, len(paper), paper[0]), ("held", columns, (1, 1)))
            for row in rows:
                total = sum((fraction_of(paper[column]) * factor for column, factor in row), Fraction(0))
                self.assertEqual(total % prime if prime else total, 0)
        return word

    def test_by_hand(self):
        chance = seeded(4)
        words = []
        for prime in [0, 0, 0] + PRIMES:
            for _ in range(25):
                columns = chance.randint(1, 8)
                rows = [[(column, chance.randint(-9, 9)) for column in range(columns) if chance.random() < 0.5]
                        for _ in range(chance.randint(0, 8))]
                rows = [[(column, number % prime if prime else number) for column, number in row] for row in rows]
                heads = reduced_by_hand([{column: Fraction(number) for column, number in row} for row in rows], prime)
                words.append(self.looked_at(prime, rows, columns))
                self.assertEqual(words[-1], "made" if 0 in heads else "held")
                self.assertEqual(rank(prime, rows, columns), None if 0 in heads else len(heads))
        self.assertGreater(words.count("made"), 100)
        self.assertGreater(words.count("held"), 100)

    def test_rows_that_a_prime_makes_alike(self):
        second = prime_below(FIRST_PRIME)
        for number in (FIRST_PRIME, second, FIRST_PRIME * second):
            self.assertEqual(self.looked_at(0, [[(0, 1), (1, number)]], 2), "held")
            self.assertEqual(self.looked_at(0, [[(1, number)], [(0, 1), (1, number)]], 2), "made")
            self.assertEqual(self.looked_at(0, [[(1, 1), (2, number)], [(1, 1), (0, 1)]], 3), "held")
            self.assertEqual(rank(0, [[(1, 1), (2, 1)], [(1, 1), (2, number + 1)]], 4), 2)
            self.assertEqual(rank(0, [[(1, 1), (2, 1)], [(1, number + 1), (2, number + 1)]], 4), 1)

    def test_primes(self):
        self.assertTrue(is_odd_prime(FIRST_PRIME))
        self.assertEqual([number for number in range(3, 100, 2) if is_odd_prime(number)], PRIMES[1:])
        self.assertEqual([prime_below(number) for number in (99, 97, 91, 7)], [97, 89, 89, 5])


if __name__ == "__main__":
    unittest.main()
