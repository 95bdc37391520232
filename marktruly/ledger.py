"""Ledger: a house that writes texts under keys that are drawn anew, and knows them again."""

from marktruly.basics import is_number_below
from marktruly.errors import NoTicket
from marktruly.shares import Share


class Ledger:
    """The tickets of the texts that a house wrote with a marking."""

    def __init__(self, marking):
        self._marking = marking
        # The place of the key of each ticket.
        self._places = []
        # The tickets that count.
        self._counting = {}
        self._deeds = []

    @classmethod
    def come_back(cls, marking, journal):
        """Return the ledger that the deeds of a journal make."""
        ledger = cls(marking)
        for deed, number in journal:
            if deed == "issue":
                ledger.issue(number)
            elif deed == "withdraw":
                ledger.withdraw(number)
            else:
                ledger.restore(number)
        return ledger

    def __len__(self):
        return len(self._counting)

    def issue(self, number):
        """Write a text under the key that has this number; return its ticket."""
        place = self._marking.key_of(number)
        ticket = len(self._places)
        self._places.append(place)
        self._counting[ticket] = True
        self._deeds.append(("issue", number))
        return ticket

    def text_of(self, ticket):
        """Return the text of a ticket."""
        return self._marking.write(self.key_of(ticket))

    def key_of(self, ticket):
        """Return the place of the key of a ticket."""
        self._check_ticket(ticket)
        return self._places[ticket]

    def withdraw(self, ticket):
        """Let a ticket count no longer; tell whether it counted."""
        self._check_ticket(ticket)
        if ticket not in self._counting:
            return False
        del self._counting[ticket]
        self._deeds.append(("withdraw", ticket))
        return True

    def restore(self, ticket):
        """Let a ticket count again; tell whether it did not."""
        self._check_ticket(ticket)
        if ticket in self._counting:
            return False
        self._counting[ticket] = True
        self._deeds.append(("restore", ticket))
        return True

    def asked(self, text):
        """Return the tickets that count and whose key accuses a text, ascending."""
        return tuple([ticket for ticket in sorted(self._counting) if self._marking.accuses(self._places[ticket], text)])

    def chance(self, text):
        """Return the share with which so many keys, drawn independently, have one at least that accuses a text."""
        each = Share(1, 1) - self._marking.accused_share(text)
        spared = Share(1, 1)
        for _ in range(len(self)):
            spared = spared * each
        return Share(1, 1) - spared

    def journal(self):
        """Return what was done, in order."""
        return tuple(self._deeds)

    def _check_ticket(self, ticket):
        if not is_number_below(ticket, len(self._places)):
            raise NoTicket(ticket)
