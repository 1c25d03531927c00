"""Names, paths and layers of files, and the files that layers come to: [2.1]."""

from cellyard.errors import NoLayers, NoName, NoPath

LETTERS = "abcdefghijklmnopqrstuvwxyz"
SIGNS = "abcdefghijklmnopqrstuvwxyz0123456789"
MAX_LETTERS = 6
MAX_SIGNS = 20
MAX_NAMES = 4
MAX_FILES = 12
MAX_LAYERS = 4


def flat(layers):
    """A rising list of tuples (path, text) of all files that the layers come to."""
    if not are_layers(layers):
        raise NoLayers(f"layers are a tuple of at most {MAX_LAYERS} tuples of tuples (path, text)")
    found = {}
    for layer in layers:
        for path, text in layer:
            found[path] = text
    return sorted([(path, text) for path, text in found.items() if text is not None])


def are_layers(thing):
    """Whether the thing is a tuple of layers."""
    if not isinstance(thing, tuple) or len(thing) > MAX_LAYERS:
        return False
    return all([is_layer(part) for part in thing])


def is_layer(thing):
    """Whether the thing is a tuple of files of unlike paths."""
    if not isinstance(thing, tuple) or len(thing) > MAX_FILES:
        return False
    # Paths are compared only where all are paths: other things may have no place in a set.
    if not all([is_layer_file(part) for part in thing]):
        return False
    return len(set([path for path, text in thing])) == len(thing)


def is_layer_file(thing):
    """Whether the thing is a tuple (path, text) of a layer; by None as its text a file is taken away."""
    if not isinstance(thing, tuple) or len(thing) != 2:
        return False
    path, text = thing
    return is_path(path) and len(path) > 0 and (text is None or are_words(text))


def is_path(thing):
    """Whether the thing is a path, which may be empty."""
    if not isinstance(thing, tuple) or len(thing) > MAX_NAMES:
        return False
    return all([is_name(part) for part in thing])


def is_name(thing):
    """Whether the thing is a name."""
    return is_text_of(thing, LETTERS, MAX_LETTERS)


def are_words(thing):
    """Whether the thing is a text that a file may bear."""
    return is_text_of(thing, SIGNS, MAX_SIGNS)


def is_text_of(thing, signs, most):
    """Whether the thing is a text of 1 to so many of these signs."""
    if not isinstance(thing, str) or not 1 <= len(thing) <= most:
        return False
    return all([sign in signs for sign in thing])


def check_path(thing):
    """Refuse what is no path."""
    if not is_path(thing):
        raise NoPath(f"a path is a tuple of at most {MAX_NAMES} names")


def check_name(thing):
    """Refuse what is no name."""
    if not is_name(thing):
        raise NoName(f"a name is a text of 1 to {MAX_LETTERS} letters a to z")
