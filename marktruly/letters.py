"""Letters: marks letter by letter, for finders who do not know the source."""

from marktruly.basics import block_of, blocks_of, common_of, counts_in_draws, sum_of_weights
from marktruly.shares import Share, sum_of


def _order(q, turn):
    """Return the places of the letters in the order that a turn gives them."""
    places = list(range(q))
    return places[turn:] + places[:turn]


def letter_write(machine, key):
    """Return the text that is written under a letter key."""
    text = ""
    state = machine.start
    for turn, number in key:
        row = machine.rows[state]
        order = _order(len(row), turn)
        at, _ = block_of(number * sum_of_weights(row) // machine.unit, [row[place][0] for place in order])
        text = text + machine.alphabet[order[at]]
        state = row[order[at]][1]
    return text


def hits(alphabet, unit, key, text):
    """Return at how many places a letter key has the text's letter."""
    q = len(alphabet)
    found = 0
    for (turn, number), letter in zip(key, text):
        if alphabet[_order(q, turn)[number * q // unit]] == letter:
            found = found + 1
    return found


def hit_tail(q, length, least):
    """Return how often something of the share 1/q comes at least so often in length draws."""
    return sum_of(counts_in_draws(Share(1, q), length)[least:])


def hit_least(q, length, level):
    """Return the least number of hits whose tail is at most the level."""
    least = 0
    while level.is_below(hit_tail(q, length, least)):
        least = least + 1
    return least


def _hit_weights(machine, state):
    """Return, for each letter, under how many pairs (turn, number) it is written with a hit in this state."""
    row = machine.rows[state]
    q = len(row)
    scale = machine.unit // sum_of_weights(row)
    found = [0] * q
    for turn in range(q):
        order = _order(q, turn)
        blocks = blocks_of([row[place][0] * scale for place in order])
        for at, place in enumerate(order):
            # The numbers from the first to the second are those of which number * q // unit is at.
            hit = (_upper(at * machine.unit, q), _upper((at + 1) * machine.unit, q))
            found[place] = found[place] + common_of(blocks[at], hit)
    return found


def _upper(number, divisor):
    """Return the least integer that is no less than number / divisor."""
    return (number + divisor - 1) // divisor


def hit_shares(machine):
    """Return, for k from 0 to length, how often the text that is written has just k hits."""
    q = len(machine.alphabet)
    hit = [_hit_weights(machine, state) for state in range(len(machine.rows))]
    # For each state, how many beginnings of keys lead to it with each number of hits.
    many = [[int(state == machine.start)] + [0] * machine.length for state in range(len(machine.rows))]
    for _ in range(machine.length):
        many = _stepped(machine, hit, many)
    whole = 1
    for _ in range(machine.length):
        whole = whole * q * machine.unit
    return tuple([Share(sum([row[k] for row in many]), whole) for k in range(machine.length + 1)])


def _stepped(machine, hit, many):
    """Return how many beginnings of keys, longer by one pair, lead to each state with each number of hits."""
    found = [[0] * (machine.length + 1) for _ in machine.rows]
    for before, row in enumerate(machine.rows):
        scale = len(row) * (machine.unit // sum_of_weights(row))
        for place, (weight, state) in enumerate(row):
            meeting = hit[before][place]
            missing = weight * scale - meeting
            for k, ways in enumerate(many[before]):
                found[state][k] = found[state][k] + ways * missing
                # With as many hits as the text is long there is no way on.
                if k < machine.length:
                    found[state][k + 1] = found[state][k + 1] + ways * meeting
    return found


def hit_found(machine, level, most):
    """Return how often the text that is written has enough hits, even with so many letters exchanged."""
    least = hit_least(len(machine.alphabet), machine.length, level)
    if least == 0:
        return Share(1, 1)
    return sum_of(hit_shares(machine)[least + most:])
