"""Points [2], [3] and [7]: machines."""

import unittest
from fractions import Fraction
from math import lcm

from marktruly.errors import InvalidNumber
from marktruly.sources import Machine
from samples import HUGE, MACHINES, NO_INTEGERS, fraction_of, machine_shares


def lists_of(rows):
    return [[list(pair) for pair in row] for row in rows]


class MachineTest(unittest.TestCase):

    def assert_is(self, machine, parts):
        alphabet, start, rows, length = parts
        self.assertEqual((machine.alphabet, machine.start, machine.length), (alphabet, start, length))
        self.assertEqual(machine.rows, rows)
        for row in (machine.rows,) + machine.rows + tuple(pair for row in machine.rows for pair in row):
            self.assertIs(tuple, row.__class__)
        unit = lcm(*[sum(pair[0] for pair in row) for row in rows])
        self.assertEqual((machine.unit, machine.whole), (unit, unit ** length))
        shares = machine_shares(*parts)
        self.assertEqual(machine.texts(), tuple(sorted(shares)))
        for text in shares:
            self.assertEqual(machine.weight_of(text), shares[text] * machine.whole)
            self.assertEqual(fraction_of(machine.share_of(text)), shares[text])
        self.assertEqual(sum(machine.weight_of(text) for text in shares), machine.whole)

    def test_machines(self):
        for parts in MACHINES:
            alphabet, start, rows, length = parts
            for machine in (
                Machine(*parts), Machine(alphabet, start, lists_of(rows), length),
                Machine(alphabet=alphabet, start=start, rows=rows, length=length),
            ):
                for _ in range(2):
                    self.assert_is(machine, parts)

    def test_weights_as_told(self):
        machine = Machine("ab", 0, (((1, 0), (2, 1)), ((0, 0), (4, 0))), 2)
        self.assertEqual((machine.unit, machine.whole), (12, 144))
        self.assertEqual(machine.texts(), ("aa", "ab", "bb"))
        self.assertEqual([machine.weight_of(text) for text in ("aa", "ab", "ba", "bb")], [16, 32, 0, 96])
        self.assertEqual(machine.share_of("ab").written(), "2/9")
        self.assertEqual(machine.share_of(text="bb").written(), "2/3")
        self.assertEqual(machine.weight_of(text="bb"), 96)

    def test_length_zero(self):
        machine = Machine("abc", 0, (((1, 0), (2, 0), (3, 0)),), 0)
        self.assertEqual((machine.texts(), machine.unit, machine.whole), (("",), 6, 1))
        self.assertEqual((machine.weight_of(""), machine.weight_of("a")), (1, 0))
        self.assertEqual(machine.drawn(0), "")
        with self.assertRaises(InvalidNumber):
            machine.drawn(1)

    def test_states_that_are_not_reached_count_in_unit(self):
        machine = Machine("a", 0, (((2, 0),), ((3, 0),)), 2)
        self.assertEqual((machine.unit, machine.whole, machine.weight_of("aa")), (6, 36, 36))

    def test_other_texts(self):
        for parts in MACHINES:
            machine = Machine(*parts)
            texts = machine.texts()
            for text in texts:
                for other in (text + machine.alphabet[0], text[1:], text[:-1] + "?", "?" + text[1:], "%", "\n" * 3):
                    if other not in texts:
                        self.assertEqual(machine.weight_of(other), 0)
                        self.assertEqual(fraction_of(machine.share_of(other)), 0)
            self.assert_is(machine, parts)

    def test_later_changes_of_what_was_passed(self):
        for parts in MACHINES:
            alphabet, start, rows, length = parts
            passed = lists_of(rows)
            machine = Machine(alphabet, start, passed, length)
            self.assertEqual(passed, lists_of(rows))
            passed[0][0][0] = 500
            passed[0][0][1] = 7
            del passed[-1]
            self.assert_is(machine, parts)

    def test_drawn_first_and_last_of_each_block(self):
        for parts in MACHINES:
            machine = Machine(*parts)
            shares = machine_shares(*parts)
            ends, first = [], 0
            for text in sorted(shares):
                size = int(shares[text] * machine.whole)
                ends = ends + [(first, text), (first + size - 1, text)]
                first = first + size
            self.assertEqual(first, machine.whole)
            for number, text in ends + ends[::-1]:
                self.assertEqual(machine.drawn(number), text)
                self.assertEqual(machine.drawn(number=number), text)
            self.assert_is(machine, parts)

    def test_drawn_every_number(self):
        for parts in MACHINES:
            machine = Machine(*parts)
            if machine.whole <= 5000:
                dealt = [text for text in machine.texts() for _ in range(machine.weight_of(text))]
                self.assertEqual([machine.drawn(number) for number in range(machine.whole)], dealt)

    def test_drawn_with_wrong_numbers(self):
        for parts in MACHINES:
            machine = Machine(*parts)
            for number in (-1, machine.whole, machine.whole + 1, HUGE, -HUGE) + NO_INTEGERS:
                with self.assertRaises(InvalidNumber) as caught:
                    machine.drawn(number)
                self.assertEqual(repr(caught.exception.number), repr(number))
            self.assert_is(machine, parts)

    def test_two_machines_in_turn(self):
        one, other = Machine(*MACHINES[2]), Machine(*MACHINES[6])
        for _ in range(2):
            self.assert_is(one, MACHINES[2])
            self.assert_is(other, MACHINES[6])

    def test_more_than_sixty_four_texts(self):
        machine = Machine("abcdef", 0, ((tuple((1, 0) for _ in range(6))),), 8)
        self.assertEqual(machine.whole, 6 ** 8)
        self.assertEqual(machine.drawn(6 ** 8 - 1), "f" * 8)
        self.assertEqual(machine.drawn(6 ** 7), "b" + "a" * 7)
        self.assertEqual(fraction_of(machine.share_of("abcdefab")), Fraction(1, 6 ** 8))


if __name__ == "__main__":
    unittest.main()
