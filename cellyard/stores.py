"""Stores of files: [6.1], and what [6.3] does to a file in its store."""

from cellyard.errors import NoFile, NoStore, Taken
from cellyard.layers import check_name, flat


class Stores:
    """All stores of a yard: `texts_by_name` has for each store what its files bear by their paths."""

    def __init__(self):
        self.texts_by_name = {}

    def texts_in(self, name):
        """What the files of the store of this name bear, by their paths."""
        if not self.is_store(name):
            raise NoStore("there is no store of this name")
        return self.texts_by_name[name]

    def is_store(self, name):
        """Whether the thing is a store's name."""
        return isinstance(name, str) and name in self.texts_by_name

    def add_store(self, name, layers):
        """A store of the files that the layers come to; told is how many."""
        check_name(name)
        found = flat(layers)
        if self.is_store(name):
            raise Taken(f"there is a store {name} already")
        self.fill(name, found)
        return len(found)

    def fill(self, name, found):
        """There is a store of this name with these files, tuples (path, text)."""
        self.texts_by_name[name] = dict(found)

    def forget_store(self, name):
        """The store is no more."""
        del self.texts_by_name[name]

    def files_of(self, name):
        """A rising list of tuples (path, text) of the store's files."""
        return sorted(self.texts_in(name).items())

    def text_at(self, name, path):
        """What the store's file of this path bears, or None."""
        return self.texts_in(name).get(path)

    def put_text(self, name, path, text):
        """The store's file of this path bears this text."""
        self.texts_in(name)[path] = text

    def take_file(self, name, path):
        """The store's file of this path is no more."""
        texts = self.texts_in(name)
        if path not in texts:
            raise NoFile("there is no such file")
        del texts[path]
