"""Marked places among very many, counted in few steps."""


class Marks:
    # counts[k] tells how many are marked of the places just ahead of place k, as many places as k's lowest bit says. So
    # the counts of a few such stretches make up what is marked ahead of a place, and each place lies in a few of them.
    # Places that are never marked fill up to a power of two, so that a walk by halves never leads out of the counts.
    def __init__(self, flags):
        many = 1 << len(flags).bit_length()
        self.counts = [0] + [1 if flag else 0 for flag in flags] + [0] * (many - len(flags))
        for end in range(1, many):
            self.counts[end + (end & -end)] += self.counts[end]

    def unmark(self, place):
        counts = self.counts
        many = len(counts)
        end = place + 1
        while end < many:
            counts[end] -= 1
            end += end & -end

    def ahead(self, place):
        # How many are marked ahead of the place.
        counts = self.counts
        number = 0
        end = place
        while end > 0:
            number += counts[end]
            end = end & (end - 1)
        return number

    def place_behind(self, number):
        # The place of the marked one that has so many marked ones ahead; a place behind all if there is none.
        counts = self.counts
        rest = number
        place = 0
        stretch = len(counts) >> 1
        while stretch > 0:
            marked = counts[place + stretch]
            if marked <= rest:
                rest -= marked
                place += stretch
            stretch = stretch >> 1
        return place
