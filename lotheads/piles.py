"""Piles: joins that can be taken back, the last one first."""

from lotheads.deeds import copied, join_done
from lotheads.errors import NoBack, NoMark
from lotheads.forests import check_thing, is_thing, lots_in
from lotheads.stores import new_store


class Pile:
    """Joins by size, SHORT being none; the store behind each of them is kept, so that it can be gone back to."""

    def __init__(self, many):
        self.stores = [new_store(many, "size", "none")]
        self.standing = []

    def join(self, x, y):
        store = self.stores[-1]
        many = len(store[2])
        check_thing(many, x)
        check_thing(many, y)
        behind, real, steps = join_done(store, x, y)
        self.stores.append(behind)
        self.standing.append((x, y))
        return real

    def back(self):
        if len(self.standing) == 0:
            raise NoBack("no join stands")
        self.back_to(len(self.standing) - 1)

    def back_to(self, number):
        # None may stand, and all: one number more than there are joins.
        if not is_thing(len(self.standing) + 1, number):
            raise NoMark("not so many joins stand")
        self.standing = self.standing[:number]
        self.stores = self.stores[:number + 1]

    def ups(self):
        return copied(self.stores[-1][2])

    def lots(self):
        return lots_in(self.stores[-1][2])

    def joins(self):
        return tuple([(x, y) for x, y in self.standing])
