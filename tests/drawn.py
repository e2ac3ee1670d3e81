"""Drawn calls of all words, most of which can be done, some of which are refused for each reason there is."""

from plugproof.shape import name_of

NAMES = ("a", "b", "c", "aa", "zzzz")
# How often each word is drawn, beside the others.
WORDS = {
    "make": 6, "create": 10, "link": 6, "unlink": 8, "remove": 4, "move": 8, "copy": 6, "list": 2, "tell": 3, "give": 3,
    "limit": 1, "sync": 1, "open": 12, "shut": 6, "read": 6, "write": 22, "seek": 6, "cut": 10, "lock": 3, "unlock": 3,
    "view": 4, "view_list": 2, "view_read": 3, "view_tell": 2, "end_view": 3,
}
ODD_PATHS = ("a", None, ("A",), ("a", ""), ("a", 1), ("a", "found"), ("found", "found"), ("toolong",), (True,))
ODD_NUMBERS = (-1, True, None, "1", (1,), 601, 10 ** 9)


def paths_in(inner, start):
    """The pairs (path, kind) of what a directory holds, as tree_of tells it."""
    told = []
    for entry in inner:
        path = start + (entry[0],)
        told.append((path, entry[1]))
        if entry[1] == "dir":
            told += paths_in(entry[2], path)
    return told


def paths_of(tree):
    return paths_in(tree[0], ()) + paths_in(tree[1], ("found",))


class Caller:
    """Draws calls that fit what there is: `tree` as tree_of tells it, `handles` and `views` as a System has them."""

    def __init__(self, draw, users=2, sizes=(1, 2, 9, 30), odd=0.03, places=(0, 7, 8, 23, 24, 88, 200, 599)):
        self.draw = draw
        self.users = users
        self.sizes = sizes
        self.odd = odd
        self.places = places

    def call(self, system, tree):
        """A call for a System, or what looks like one, whose tree is this."""
        self.paths = paths_of(tree)
        self.system = system
        word = self.draw.choices(list(WORDS), list(WORDS.values()))[0]
        user = self.draw.randrange(self.users)
        if self.draw.random() < self.odd / 3:
            user = self.draw.choice((-1, self.users, True, "0", None))
        kind, user_and_number = self.taken(word, user)
        if kind is None:
            return (word, user) + self.things(word)
        return (word,) + user_and_number + self.things(word)

    def taken(self, word, user):
        """For calls on handles and views: a user, most often the one who has it, and a number."""
        if word in ("shut", "read", "write", "seek", "cut", "lock", "unlock"):
            known = {number: handle.user for number, handle in self.system.handles.known.items()}
        elif word in ("view_list", "view_read", "view_tell", "end_view"):
            known = {number: view.user for number, view in self.system.views.known.items()}
        else:
            return None, ()
        if not known or self.draw.random() < self.odd:
            return "odd", (user, self.draw.choice((0, 1, 3, 15, 16) + (ODD_NUMBERS if self.odd else ())))
        number = self.draw.choice(sorted(known))
        return "known", (known[number] if self.draw.random() < 0.97 else user, number)

    def things(self, word):
        """What a call is about, behind its user and the number of a handle or view."""
        about = {
            "make": "new", "create": "new", "link": "file new", "unlink": "file", "remove": "dir", "move": "old new",
            "copy": "old new", "list": "dir", "tell": "old", "give": "file user", "limit": "user limit", "open": "file mode",
            "read": "many", "write": "numbers", "seek": "place", "cut": "place", "lock": "kind", "view_list": "dir",
            "view_read": "file", "view_tell": "old",
        }
        return tuple(getattr(self, "a_" + kind)() for kind in about.get(word, "").split())

    def is_odd(self):
        return self.draw.random() < self.odd

    def a_path(self, kinds):
        """A path to something that is there, of one of these kinds, if there is such a thing."""
        there = [path for path, kind in self.paths if kind in kinds]
        if self.draw.random() < 0.08 or not there:
            there = [path for path, _ in self.paths] + [(), ("found",)]
        path = self.draw.choice(there)
        return list(path) if self.draw.random() < 0.05 else path

    def a_new(self):
        if self.is_odd():
            return self.draw.choice(ODD_PATHS)
        if self.draw.random() < 0.15:
            return self.a_path(("dir", "file"))
        dirs = [path for path, kind in self.paths if kind == "dir"] + [(), (), (), ("found",)]
        name = self.draw.choice(NAMES) if self.draw.random() < 0.9 else name_of(self.draw.randrange(475254))
        return self.draw.choice(dirs) + (name,)

    def a_file(self):
        return self.draw.choice(ODD_PATHS) if self.is_odd() else self.a_path(("file",))

    def a_dir(self):
        return self.draw.choice(ODD_PATHS) if self.is_odd() else self.a_path(("dir",))

    def a_old(self):
        return self.draw.choice(ODD_PATHS) if self.is_odd() else self.a_path(("dir", "file"))

    def a_user(self):
        return self.draw.choice(ODD_NUMBERS) if self.is_odd() else self.draw.randrange(self.users)

    def a_limit(self):
        return self.draw.choice(ODD_NUMBERS) if self.is_odd() else self.draw.randint(0, 40)

    def a_mode(self):
        return self.draw.choice(("rw", None, 0)) if self.is_odd() else self.draw.choice(("read", "write", "write", "append"))

    def a_kind(self):
        return self.draw.choice(("", None, 0)) if self.is_odd() else self.draw.choice(("shared", "alone"))

    def a_many(self):
        return self.draw.choice(ODD_NUMBERS) if self.is_odd() else self.draw.choice((0, 1, 5, 40, 600))

    def a_place(self):
        if self.is_odd():
            return self.draw.choice(ODD_NUMBERS)
        return self.draw.choice(self.places) if self.draw.random() < 0.5 else self.draw.randint(0, 40)

    def a_numbers(self):
        if self.is_odd():
            return self.draw.choice((1, None, "12", (1, True), [1, "2"], (1,) * 601))
        many = self.draw.choice(self.sizes + (0,)) if self.draw.random() < 0.2 else self.draw.choice(self.sizes)
        numbers = tuple(self.draw.randint(-2, 9) for _ in range(many))
        return list(numbers) if self.draw.random() < 0.1 else numbers
