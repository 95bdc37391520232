"""Points [1], [2], [4], [15] and [25]: ledgers, and how they come back."""

import unittest
from fractions import Fraction

from marktruly.errors import InvalidNumber, MarkError, NoTicket
from marktruly.ledger import Ledger
from marktruly.markings import Marking
from packings import Dice, drawn_markings
from samples import HUGE, NO_INTEGERS, fraction_of

MARKING = Marking(((1, "b", ("a", "b")), (2, "a", ("a",)), (3, "b", ("c", "b")), (2, "c", ())))
ASKED = ("a", "b", "c", "d", "z", "not there")


class PlainLedger:
    """What a ledger has to tell, by its plain meaning."""

    def __init__(self, marking):
        self.marking, self.keys, self.counting, self.deeds = marking, [], [], []

    def do(self, deed, number):
        if deed == "issue":
            dealt = [at for at, entry in enumerate(self.marking.entries) for _ in range(entry[0])]
            self.keys.append(dealt[number])
            self.counting.append(True)
            self.deeds.append((deed, number))
            return len(self.keys) - 1
        told = self.counting[number] == (deed == "withdraw")
        self.counting[number] = deed == "restore"
        if told:
            self.deeds.append((deed, number))
        return told

    def chance(self, text):
        share = Fraction(sum(entry[0] for entry in self.marking.entries if text in entry[2]), self.marking.whole)
        return 1 - (1 - share) ** sum(self.counting)


def do(ledger, deed, number):
    return {"issue": ledger.issue, "withdraw": ledger.withdraw, "restore": ledger.restore}[deed](number)


def drawn_deeds(dice, marking, many):
    """Deeds for a ledger with this marking, among them such that change nothing."""
    deeds, issued = [], 0
    for _ in range(many):
        if issued == 0 or dice.below(5) < 2:
            deeds.append(("issue", dice.below(marking.whole)))
            issued = issued + 1
        else:
            deeds.append((("withdraw", "restore")[dice.below(5) < 2], dice.below(issued)))
    return deeds


def small_markings():
    return [MARKING] + [marking for marking, _ in drawn_markings(30, 3) if marking.whole < 400]


class LedgerTest(unittest.TestCase):

    def assert_tells(self, ledger, plain):
        tickets = range(len(plain.keys))
        self.assertEqual(len(ledger), sum(plain.counting))
        self.assertEqual(ledger.journal(), tuple(plain.deeds))
        for part in (ledger.journal(), *ledger.journal(), ledger.asked("a")):
            self.assertIs(tuple, part.__class__)
        self.assertEqual([ledger.key_of(ticket) for ticket in tickets], plain.keys)
        self.assertEqual([ledger.text_of(ticket) for ticket in tickets], [plain.marking.entries[key][1] for key in plain.keys])
        for text in ASKED:
            asked = [at for at in tickets if plain.counting[at] and text in plain.marking.entries[plain.keys[at]][2]]
            self.assertEqual(ledger.asked(text), tuple(asked))
            self.assertEqual(fraction_of(ledger.chance(text)), plain.chance(text))
        with self.assertRaises(NoTicket):
            ledger.key_of(len(plain.keys))

    def test_as_told(self):
        ledger = Ledger(marking=MARKING)
        self.assertEqual((len(ledger), ledger.asked("b"), ledger.journal(), ledger.chance("b").written()), (0, (), (), "0"))
        self.assertEqual([ledger.issue(number=number) for number in (0, 3, 7, 0)], [0, 1, 2, 3])
        self.assertEqual([ledger.text_of(ticket=ticket) for ticket in range(4)], ["b", "b", "c", "b"])
        self.assertEqual([ledger.key_of(ticket=ticket) for ticket in range(4)], [0, 2, 3, 0])
        self.assertEqual((ledger.asked(text="b"), ledger.asked("a"), ledger.asked("z")), ((0, 1, 3), (0, 3), ()))
        self.assertEqual((ledger.chance(text="b").written(), ledger.chance("z").written()), ("15/16", "0"))
        told = (ledger.withdraw(ticket=0), ledger.withdraw(0), ledger.restore(ticket=1), ledger.withdraw(2), ledger.restore(0))
        self.assertEqual(told, (True, False, False, True, True))
        self.assertEqual((len(ledger), ledger.asked("a"), ledger.text_of(2)), (3, (0, 3), "c"))
        self.assertEqual(ledger.chance("b").written(), "7/8")
        self.assertEqual(ledger.journal(), (
            ("issue", 0), ("issue", 3), ("issue", 7), ("issue", 0), ("withdraw", 0), ("withdraw", 2), ("restore", 0)))

    def test_true_and_false_are_told(self):
        ledger = Ledger(MARKING)
        ledger.issue(0)
        for told, ask in ((True, ledger.withdraw), (False, ledger.withdraw), (True, ledger.restore), (False, ledger.restore)):
            self.assertIs(ask(0), told)

    def test_drawn_deeds(self):
        dice = Dice(21)
        for marking in small_markings():
            ledger, plain = Ledger(marking), PlainLedger(marking)
            for deed, number in drawn_deeds(dice, marking, 60):
                self.assertEqual(do(ledger, deed, number), plain.do(deed, number))
                self.assertEqual(len(ledger), sum(plain.counting))
            for _ in range(2):
                self.assert_tells(ledger, plain)

    def test_sixty_tickets_with_large_weights(self):
        one = 10 ** 39
        ledger = Ledger(Marking(((one, "a", ("a",)), (10 ** 40, "b", ("b", "a")), (one + 7, "c", ()))))
        for at in range(60):
            self.assertEqual(ledger.issue(at * (one // 8)), at)
        share = Fraction(one + 10 ** 40, 2 * one + 7 + 10 ** 40)
        self.assertEqual(fraction_of(ledger.chance("a")), 1 - (1 - share) ** 60)
        self.assertEqual(len(ledger), 60)

    def test_two_ledgers_of_one_marking(self):
        one, other, before = Ledger(MARKING), Ledger(MARKING), MARKING.entries
        one.issue(0)
        one.issue(5)
        other.issue(7)
        one.withdraw(1)
        self.assertEqual((len(one), len(other), one.asked("b"), other.asked("b")), (1, 1, (0,), ()))
        self.assertEqual((one.text_of(0), other.text_of(0)), ("b", "c"))
        self.assertEqual(other.journal(), (("issue", 7),))
        self.assertEqual(MARKING.entries, before)
        with self.assertRaises(NoTicket):
            other.withdraw(1)

    def test_what_was_told_stays(self):
        ledger = Ledger(MARKING)
        ledger.issue(0)
        told = ledger.journal(), ledger.asked("a")
        ledger.issue(1)
        ledger.withdraw(0)
        self.assertEqual(told, ((("issue", 0),), (0,)))


class WrongTest(unittest.TestCase):

    def setUp(self):
        self.ledger, self.plain = Ledger(MARKING), PlainLedger(MARKING)
        for deed in (("issue", 0), ("issue", 7), ("issue", 3), ("withdraw", 1)):
            do(self.ledger, *deed)
            self.plain.do(*deed)

    def assert_wrong(self, kind, name, value, ask):
        with self.assertRaises(kind) as caught:
            ask(value)
        self.assertEqual(repr(getattr(caught.exception, name)), repr(value))
        self.assertTrue(isinstance(caught.exception, MarkError) and isinstance(caught.exception, ValueError))
        LedgerTest.assert_tells(self, self.ledger, self.plain)

    def test_numbers(self):
        for number in (-1, 8, 9, -8, HUGE, -HUGE) + NO_INTEGERS:
            self.assert_wrong(InvalidNumber, "number", number, self.ledger.issue)

    def test_tickets(self):
        ledger = self.ledger
        for ticket in (-1, 3, 4, -3, HUGE, -HUGE) + NO_INTEGERS:
            for ask in (ledger.text_of, ledger.key_of, ledger.withdraw, ledger.restore):
                self.assert_wrong(NoTicket, "ticket", ticket, ask)

    def test_no_ticket_of_an_empty_ledger(self):
        ledger = Ledger(MARKING)
        for ask in (ledger.text_of, ledger.key_of, ledger.withdraw, ledger.restore):
            with self.assertRaises(NoTicket) as caught:
                ask(0)
            self.assertEqual(caught.exception.ticket, 0)

    def test_goes_on_after_errors(self):
        for value in NO_INTEGERS:
            for ask in (self.ledger.issue, self.ledger.withdraw):
                with self.assertRaises(MarkError):
                    ask(value)
        self.assertEqual(self.ledger.issue(1), 3)
        self.assertEqual(self.ledger.key_of(3), 1)


class ComeBackTest(unittest.TestCase):

    def test_at_every_cut(self):
        dice = Dice(33)
        for marking in small_markings()[:8]:
            first = Ledger(marking)
            for deed, number in drawn_deeds(dice, marking, 40):
                do(first, deed, number)
            journal = first.journal()
            going_on = drawn_deeds(dice, marking, 10)
            for cut in range(len(journal) + 1):
                for handed in (journal[:cut], [list(deed) for deed in journal[:cut]]):
                    self.assert_comes_back(marking, handed, going_on)
            self.assertEqual(first.journal(), journal)

    def assert_comes_back(self, marking, handed, going_on):
        before = repr(handed)
        ledger, plain = Ledger.come_back(marking, handed), PlainLedger(marking)
        self.assertIs(Ledger, ledger.__class__)
        for deed, number in handed:
            plain.do(deed, number)
        LedgerTest.assert_tells(self, ledger, plain)
        for deed, number in going_on:
            self.assertEqual(do(ledger, deed, number), plain.do(deed, number))
        LedgerTest.assert_tells(self, ledger, plain)
        self.assertEqual(repr(handed), before)

    def test_the_first_ledger_stays(self):
        first = Ledger(MARKING)
        first.issue(3)
        back = Ledger.come_back(marking=MARKING, journal=first.journal())
        back.withdraw(0)
        back.issue(0)
        self.assertEqual((len(first), first.asked("b"), first.journal()), (1, (0,), (("issue", 3),)))
        self.assertEqual((len(back), back.asked("b")), (1, (1,)))
        first.issue(7)
        self.assertEqual((back.text_of(1), first.text_of(1)), ("b", "c"))

    def test_later_changes_of_the_journal(self):
        journal = [["issue", 3], ["withdraw", 0]]
        back = Ledger.come_back(MARKING, journal)
        journal[1][0] = "restore"
        journal.append(["issue", 0])
        self.assertEqual((len(back), back.journal()), (0, (("issue", 3), ("withdraw", 0))))

    def test_nothing_done(self):
        for journal in ((), []):
            back = Ledger.come_back(MARKING, journal)
            self.assertEqual((len(back), back.journal(), back.issue(0)), (0, (), 0))


if __name__ == "__main__":
    unittest.main()
