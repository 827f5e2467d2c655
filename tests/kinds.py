"""Of what kinds the things are that the program tells."""


def is_told(thing):
    """Whether it is a thing of tuples, texts, whole numbers, True, False and None alone, of no kind below these."""
    if type(thing) is tuple:
        return all(is_told(part) for part in thing)
    return type(thing) in (str, int, bool, type(None))
