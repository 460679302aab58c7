"""Fields: the fractions, and the numbers left over by a prime.

A number is a tuple (top, bottom), the same for both kinds of field, so that all that
is written over fields need not ask which kind it has.
"""

from falsesums.errors import NoField, NoNumber
from falsesums.kinds import is_whole

FRACTIONS = 0
PRIMES = (2, 3, 5, 7, 11, 13, 17, 19, 23, 29, 31, 37, 41, 43, 47, 53, 59, 61, 67, 71, 73, 79, 83, 89, 97)


def common_divisor(one, other):
    """The greatest number that divides both."""
    while other:
        one, other = other, one % other
    return abs(one)


def lowest(top, bottom):
    """The fraction top by bottom, which is not nought, as a number."""
    if bottom == 1:
        return (top, 1)
    divisor = common_divisor(top, bottom)
    if bottom < 0:
        divisor = -divisor
    return (top // divisor, bottom // divisor)


def common_bottom(numbers):
    """The least whole number from 1 on that the bottom of each number divides."""
    bottom = 1
    for number in numbers:
        if bottom % number[1]:
            bottom = bottom // common_divisor(bottom, number[1]) * number[1]
    return bottom


def whole_tops(numbers):
    """Fractions as whole numbers without a common divisor, and the number above nought that multiplied them."""
    bottom = common_bottom(numbers)
    tops = [bottom // number[1] * number[0] for number in numbers]
    divisor = 0
    for top in tops:
        divisor = common_divisor(divisor, top)
    if divisor == 0:
        return (tops, (1, 1))
    return ([top // divisor for top in tops], lowest(bottom, divisor))


def inverse(number, prime):
    """What gives 1 with number over the prime, which does not divide it."""
    rest, share = number % prime, 1
    last, last_share = prime, 0
    while rest != 1:
        many = last // rest
        last, rest = rest, last - many * rest
        last_share, share = share, last_share - many * share
    return share % prime


class Field:
    """The field of a prime, or, of prime 0, the fractions."""

    def __init__(self, prime=FRACTIONS):
        if not is_whole(prime) or prime != FRACTIONS and prime not in PRIMES:
            raise NoField("a field is made of 0 or of a prime from 2 to 97")
        self.its_prime = prime

    def __eq__(self, other):
        return isinstance(other, Field) and self.its_prime == other.its_prime

    def __repr__(self):
        return f"Field({self.its_prime})"

    def prime(self):
        """The prime; 0 of the fractions."""
        return self.its_prime

    def made(self, top, bottom=1):
        """The number top by bottom."""
        if not is_whole(top) or not is_whole(bottom):
            raise NoNumber("a number is made of whole numbers")
        return self.quotient(top, bottom)

    def quotient(self, top, bottom):
        """The number top by bottom, of whole numbers."""
        if self.its_prime == FRACTIONS:
            if bottom == 0:
                raise NoNumber("nothing is divided by nought")
            return lowest(top, bottom)
        if bottom % self.its_prime == 0:
            raise NoNumber("nothing is divided by what the prime divides")
        return (top * inverse(bottom, self.its_prime) % self.its_prime, 1)

    def plus(self, one, other):
        """The sum of two numbers."""
        return self.settled(one[0] * other[1] + other[0] * one[1], one[1] * other[1])

    def minus(self, one, other):
        """One number less the other."""
        return self.settled(one[0] * other[1] - other[0] * one[1], one[1] * other[1])

    def times(self, one, other):
        """The product of two numbers."""
        return self.settled(one[0] * other[0], one[1] * other[1])

    def over(self, one, other):
        """One number by the other."""
        return self.quotient(one[0] * other[1], one[1] * other[0])

    def settled(self, top, bottom):
        """The number top by bottom, of a bottom that comes of bottoms: over a prime it is 1."""
        if self.its_prime == FRACTIONS:
            return lowest(top, bottom)
        return (top % self.its_prime, 1)

    def is_number(self, thing):
        """Whether thing is a number of the field."""
        if not isinstance(thing, tuple) or len(thing) != 2:
            return False
        top, bottom = thing
        if not is_whole(top) or not is_whole(bottom):
            return False
        if self.its_prime == FRACTIONS:
            return bottom >= 1 and common_divisor(top, bottom) == 1
        return bottom == 1 and 0 <= top < self.its_prime
