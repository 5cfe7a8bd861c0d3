"""All that an object holds, as one tuple, and copies of objects, for all tests."""

import pickle


def frozen(thing):
    """All that a thing holds, through and through, the order of its parts too."""
    if isinstance(thing, dict):
        return ("dict",) + tuple((frozen(key), frozen(value)) for key, value in thing.items())
    if isinstance(thing, (list, tuple)):
        return (type(thing).__name__,) + tuple(frozen(part) for part in thing)
    if hasattr(thing, "__dict__"):
        return (type(thing).__name__, frozen(vars(thing)))
    return (type(thing).__name__, thing)


def copied(thing):
    """Another one that holds the same."""
    return pickle.loads(pickle.dumps(thing))
