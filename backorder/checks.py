"""What several files ask of the things handed in, before they use them."""

from backorder.errors import BadRow


def is_whole(value):
    # Python takes True and False for whole numbers; here they are none.
    return isinstance(value, int) and not isinstance(value, bool)


def first_met(thing, met):
    # The kind is asked first: what is no number may not be compared, or may fail when it is.
    if not is_whole(thing) or not 0 <= thing < len(met) or met[thing]:
        return False
    met[thing] = True
    return True


def is_row(value):
    if not isinstance(value, list):
        return False
    met = [False] * len(value)
    for thing in value:
        if not first_met(thing, met):
            return False
    return True


def need_row(value):
    # The words show nothing of the value: writing it out could fail itself (a number of very many figures).
    if not is_row(value):
        raise BadRow("a row is a list of the numbers from 0 on, as many as it has things, each once")


def are_parts(many, told):
    # Lists of one or more of so many things, none twice, some perhaps in none.
    if not isinstance(told, list):
        return False
    met = [False] * many
    for part in told:
        if not isinstance(part, list) or len(part) == 0:
            return False
        for thing in part:
            if not first_met(thing, met):
                return False
    return True


def are_whole_parts(many, told):
    # None is there twice, so no thing is left out if there are as many.
    return are_parts(many, told) and sum([len(part) for part in told]) == many


def is_pair(value):
    return isinstance(value, tuple) and len(value) == 2 and is_whole(value[0]) and is_whole(value[1])


def are_pairs(value):
    return isinstance(value, list) and all([is_pair(pair) for pair in value])
