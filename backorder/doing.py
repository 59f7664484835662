"""Moves of each kind, done to a row."""

from backorder.marks import Marks
from backorder.rows import back_of


def is_in_order(row):
    return row == list(range(len(row)))


def after_exchanges(row, pairs):
    done = list(row)
    for one, other in pairs:
        held = done[one]
        done[one] = done[other]
        done[other] = held
    return done


def after_fronting(row, things):
    # None is there twice: so the last one taken stands first, and so on to the first one taken.
    moved = [False] * len(row)
    for thing in things:
        moved[thing] = True
    return things[::-1] + [thing for thing in row if not moved[thing]]


def after_ending(row, moves):
    # Walked from the last move on: only the last one of a thing counts, and it stands outside of all moved earlier.
    moved = [False] * len(row)
    front = []
    rear = []
    for thing, end in reversed(moves):
        if not moved[thing]:
            moved[thing] = True
            if end == 0:
                front.append(thing)
            else:
                rear.append(thing)
    return front + [thing for thing in row if not moved[thing]] + rear[::-1]


def stand_rising(waiting_ahead, waiting_behind):
    # Of two things the lesser one stands ahead if the waiting thing ahead of it comes ahead of the waiting thing behind
    # the greater one.
    furthest = -1
    for thing, place in enumerate(waiting_behind):
        if place <= furthest:
            return False
        furthest = max(furthest, waiting_ahead[thing])
    return True


def marked_things(many, moves):
    flags = [False] * many
    for thing, place in moves:
        flags[thing] = True
    return flags


def put_brings_order(row, moves):
    # Each move is of another thing of the row. To put very many things into a list one by one would take too long, so
    # the row isn't built. A thing is waiting as long as it has yet to be moved, else settled. Settled things have to
    # stand rising: so of the things ahead of one put in, the settled ones are all the lesser ones, and the rest are
    # waiting ones, which stand among themselves as they did at first. So all that has to be known of a settled thing
    # is between which two waiting ones it stands, told here by their places in the row; of one that is never moved
    # its own place says it.
    places = back_of(row)
    waiting_ahead = list(places)
    waiting_behind = list(places)
    flags = marked_things(len(row), moves)
    waiting_things = Marks(flags)
    waiting_places = Marks([flags[thing] for thing in row])
    waiting = len(moves)
    for thing, place in moves:
        waiting -= 1
        waiting_things.unmark(thing)
        waiting_places.unmark(places[thing])
        lesser_settled = thing - waiting_things.ahead(thing)
        number = place - lesser_settled
        if not 0 <= number <= waiting:
            return False
        waiting_ahead[thing] = waiting_places.place_behind(number - 1) if number > 0 else -1
        waiting_behind[thing] = waiting_places.place_behind(number)
    return stand_rising(waiting_ahead, waiting_behind)
