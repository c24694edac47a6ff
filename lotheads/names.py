"""Names: lots that are named by their least thing, by the one joined first, or by the weightiest."""

from lotheads.deeds import join_done
from lotheads.errors import NoJoin, NoWeight
from lotheads.forests import check_thing, is_whole, lot_with, lots_in
from lotheads.stores import new_store


def is_weight(thing):
    return is_whole(thing) and thing >= 0


def check_weights(many, weights):
    if not isinstance(weights, tuple) or len(weights) != many or not all([is_weight(weight) for weight in weights]):
        raise NoWeight("no tuple of a weight for each thing")


def named_least(lot, weights, handed):
    return lot[0]


def named_first(lot, weights, handed):
    firsts = [x for x in handed if x in lot]
    return firsts[0] if firsts else lot[0]


def named_weight(lot, weights, handed):
    weightiest = max([weights[x] for x in lot])
    return [x for x in lot if weights[x] == weightiest][0]


NAMINGS = {"least": named_least, "first": named_first, "weight": named_weight}


def check_naming(by):
    if not isinstance(by, str) or by not in NAMINGS:
        raise NoJoin("no way of naming")


class Names:
    """Things with weights, joined; handed is the list of all that was handed to joins, in this order."""

    def __init__(self, many, weights):
        self.store = new_store(many, "size", "none")
        check_weights(many, weights)
        self.weights = weights
        self.handed = []

    def join(self, x, y):
        check_thing(len(self.weights), x)
        check_thing(len(self.weights), y)
        self.handed += [x, y]
        self.store, real, steps = join_done(self.store, x, y)
        return real

    def name(self, x, by):
        check_thing(len(self.weights), x)
        check_naming(by)
        naming = NAMINGS[by]
        return naming(lot_with(self.store[2], x), self.weights, self.handed)

    def sizes(self):
        counts = {}
        for lot in lots_in(self.store[2]):
            counts[len(lot)] = counts.get(len(lot), 0) + 1
        return sorted(counts.items())

    def lots(self):
        # Sorting keeps lots of one size as they stood, by their least things.
        return sorted(lots_in(self.store[2]), key=lambda lot: -len(lot))
