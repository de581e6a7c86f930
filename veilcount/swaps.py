"""Other coins for other votes, with which a lot sees just the same."""

from veilcount.coins import RunCoins, StageCoins, coins_of, flat
from veilcount.errors import BadLots, BadOrder
from veilcount.lots import holders, stage_of
from veilcount.perms import chained, matching, moved, undone
from veilcount.runs import run
from veilcount.shares import changed_table, column
from veilcount.stages import outsiders


def carrier_of(lot, mixers):
    """Return the least mixer outside of a lot, or None if it has all mixers."""
    return min(holders(lot, mixers), default=None)


def hidden_holder(held, lot, carrier):
    """Return the carrier if it is a holder, or the least holder outside of a lot, or None."""
    if carrier in held:
        return carrier
    return min([holder for holder in held if holder not in lot], default=None)


def swapped(p, mixers, family, lot, votes, others, coins, order=None):
    """Return the other coins, with which a lot has the same view of the other votes."""
    check_inside(lot, family)
    exchange = exchange_of(others, votes, order)
    record = run(p, mixers, family, votes, coins)
    drawn = coins_of(flat(coins), prime=p, mixers=mixers, family=family, rows=len(votes))
    differences = [other - vote for other, vote in zip(others, votes)]
    fresh = _taken(p, drawn.votes, carrier_of(lot, mixers), differences)
    return RunCoins(fresh, _other_stages(record, lot, drawn.stages, differences, exchange))


def check_inside(lot, family):
    """Raise an error if no lot of the family contains a lot."""
    if stage_of(lot, family) is None:
        raise BadLots(None, None)


def exchange_of(others, votes, order):
    """Return the order that moves the other votes into the votes: the one given, or else their matching."""
    exchange = matching(others, votes) if order is None else order
    if exchange is None or moved(others, exchange) != votes:
        raise BadOrder()
    return exchange


def _other_stages(record, lot, drawn, differences, exchange):
    """Return the other coins of all stages; those behind the first one that guards the lot stay."""
    guard = stage_of(lot, record.family)
    before = list(range(len(exchange)))
    stages = []
    for place in range(guard + 1):
        stage = record.stages[place]
        order = stage.order if place < guard else _exchanged(stage.order, before, exchange)
        stages.append(_other_stage(record, place, lot, drawn[place], differences, order))
        before = chained(before, stage.order)
        differences = moved(differences, stage.order)
    return stages + drawn[guard + 1:]


def _exchanged(order, before, exchange):
    """Return the order with which the moved rows have the values that they have with the votes."""
    back = undone(before)
    return [back[exchange[before[row]]] for row in order]


def _other_stage(record, place, lot, drawn, differences, order):
    """Return the other coins of a stage whose table has more in the shares of the carrier."""
    stage = record.stages[place]
    carrier = carrier_of(lot, record.mixers)
    seat = stage.holders.index(hidden_holder(stage.holders, lot, carrier))
    gather = _other_gathering(record, place, carrier, drawn.gather, seat, differences)
    held = moved(changed_table(record.prime, stage.held, seat, differences), order)
    spread = []
    for at, coins in enumerate(drawn.spread):
        more = [new - old for new, old in zip(column(held, at), column(stage.ordered, at))]
        spread.append(_taken(record.prime, coins, carrier, more))
    return StageCoins(gather, order, spread)


def _other_gathering(record, place, carrier, gather, seat, differences):
    """Return the coins of a gathering in which the piece of the carrier for a seat takes the differences."""
    fresh = []
    for mixer, coins in zip(outsiders(record.mixers, record.stages[place].holders), gather):
        taken = mixer == carrier
        fresh.append(_taken(record.prime, coins, seat, differences) if taken else coins)
    return fresh


def _taken(p, coins, place, differences):
    """Return coins of a mixer with which its piece at this place takes the differences, row by row."""
    fresh = []
    for drawn, difference in zip(coins, differences):
        # The piece without a coin stands behind the coins; it takes its difference by itself.
        fresh.append([(coin + difference) % p if at == place else coin for at, coin in enumerate(drawn)])
    return fresh
