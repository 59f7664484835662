"""What several files ask of the things handed in, before they use them."""

from backorder.errors import BadRow


def is_whole(value):
    # Python takes True and False for whole numbers; here they are none.
    return isinstance(value, int) and not isinstance(value, bool)


def first_met(thing, met):
    # The kind is asked first: what is no number may not be compared, or may fail when it is.
    if not is_whole(thing) or not 0 <= thing < len(met) or met[thing]:
        return False
    met[thing] = True
    return True


def is_row(value):
    if not isinstance(value, list):
        return False
    met = [False] * len(value)
    for thing in value:
        if not first_met(thing, met):
            return False
    return True


def need_row(value):
    # The words show nothing of the value: writing it out could fail itself (a number of very many figures).
    if not is_row(value):
        raise BadRow("a row is a list of the numbers from 0 on, as many as it has things, each once")
