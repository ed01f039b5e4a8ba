"""The fewest rounds of small nets, and the prices that show that none are fewer."""

from sumnets.errors import TooMany
from sumnets.nets import are_knots_of, is_net
from sumnets.rounds import are_hands, look_at_net_and_hands
from sumnets.whole import are_rising, is_tuple_of, is_whole

MOST_PRICED = 9

# Within this file a set of knots is a number: its bit at place k tells whether the knot width + k is in it.
NO_KNOTS = 0


def all_knots(needs):
    """The set of all knots."""
    return (1 << len(needs)) - 1


def bits_of(width, numbers):
    """The set of the knots with these numbers."""
    bits = NO_KNOTS
    for number in numbers:
        bits |= 1 << (number - width)
    return bits


def numbers_in(width, bits):
    """A tuple of the numbers of the knots in a set, rising."""
    return tuple(width + at for at in range(bits.bit_length()) if bits >> at & 1)


def needs_of(net):
    """For each knot the set of the knots among its two."""
    width, knots, ends = net
    return [bits_of(width, [part for part in knot if part >= width]) for knot in knots]


def is_done(needs, bits):
    """Whether with each knot of the set those of its two are in it that are knots."""
    return all(need & bits == need for at, need in enumerate(needs) if bits >> at & 1)


def all_dones(needs):
    """A list of all dones, each before those that have it and more."""
    return [bits for bits in range(all_knots(needs) + 1) if is_done(needs, bits)]


def next_dones(needs, hands, done):
    """A list of the dones that one round of one to hands knots makes of a done."""
    found = [(done, 0)]
    for at, need in enumerate(needs):
        if not done >> at & 1 and need & done == need:
            found = found + [(bits | 1 << at, count + 1) for bits, count in found if count < hands]
    return [bits for bits, count in found[1:]]


def least_prices(needs, hands):
    """By each done how many rounds are needed from it to the done of all knots."""
    prices = {all_knots(needs): 0}
    for done in reversed(all_dones(needs)[:-1]):
        prices[done] = 1 + min([prices[later] for later in next_dones(needs, hands, done)])
    return prices


def cheapest_rounds(width, needs, hands, prices):
    """A tuple of rounds each of which lowers the price by 1, from the done of no knots to that of all."""
    rounds = []
    done = NO_KNOTS
    while prices[done] > 0:
        later = min(next_dones(needs, hands, done), key=lambda bits: prices[bits])
        rounds.append(numbers_in(width, later - done))
        done = later
    return tuple(rounds)


def fewest_rounds(net, hands):
    """A tuple (rounds, prices): the fewest rounds, and what shows that none are fewer; NoNet, NoHands, TooMany."""
    look_at_net_and_hands(net, hands)
    width, knots, ends = net
    if len(knots) > MOST_PRICED:
        raise TooMany("it has more than nine knots")
    needs = needs_of(net)
    prices = least_prices(needs, hands)
    rounds = cheapest_rounds(width, needs, hands, prices)
    return (rounds, tuple((numbers_in(width, done), price) for done, price in prices.items()))


def is_priced(net, pair):
    """Whether pair is a tuple of rising numbers of knots, a done or not, and of a price."""
    if not is_tuple_of(pair, 2):
        return False
    numbers, price = pair
    return are_knots_of(net, numbers) and are_rising(numbers) and is_whole(price) and price >= 0


def price_table(net, needs, prices):
    """The prices by their dones, or None where prices isn't one price for each done."""
    if not isinstance(prices, tuple) or not all(is_priced(net, pair) for pair in prices):
        return None
    table = {bits_of(net[0], numbers): price for numbers, price in prices}
    if len(table) != len(prices) or sorted(table) != all_dones(needs):
        return None
    return table


def prices_hold(net, hands, number, prices):
    """Whether prices shows that no rounds of net for so many hands are fewer than number."""
    if not is_net(net) or len(net[1]) > MOST_PRICED or not are_hands(hands):
        return False
    if not is_whole(number) or number < 0:
        return False
    needs = needs_of(net)
    table = price_table(net, needs, prices)
    if table is None or table[NO_KNOTS] < number or table[all_knots(needs)] != 0:
        return False
    return all(table[done] <= 1 + table[later] for done in table for later in next_dones(needs, hands, done))
