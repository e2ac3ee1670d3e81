"""Calls that build a tree anew, where nothing stands."""

from plugproof.names import FOUND_WORD
from plugproof.readings import tree_of


def without_times(tree):
    """What a directory holds, without the times of files."""
    inner = []
    for entry in tree:
        if entry[1] == "dir":
            name, kind, below = entry
            inner.append((name, kind, without_times(below)))
        else:
            name, kind, which, owner, time, numbers = entry
            inner.append((name, kind, which, owner, numbers))
    return tuple(inner)


def calls_of_file(path, owner, numbers):
    """The list of the calls that make a file, as the first handle that is open."""
    calls = [("create", owner, path)]
    if len(numbers) > 0:
        calls.append(("open", owner, path, "write"))
        calls.append(("write", owner, 0, numbers))
        calls.append(("shut", owner, 0))
    return calls


def calls_below(inner, up, first):
    """The list of the calls that make what a directory holds; `first` has, and gets, the first path of each file."""
    calls = []
    for entry in inner:
        path = up + (entry[0],)
        if entry[1] == "dir":
            calls.append(("make", 0, path))
            calls.extend(calls_below(entry[2], path, first))
        elif entry[2] in first:
            calls.append(("link", 0, first[entry[2]], path))
        else:
            first[entry[2]] = path
            calls.extend(calls_of_file(path, entry[3], entry[5]))
    return calls


def calls_of(home, shape):
    """The tuple of the calls that build the tree of a right home on an empty disk, but for times."""
    in_root, in_found = tree_of(home, shape)
    first = {}
    calls = calls_below(in_root, (), first)
    return tuple(calls + calls_below(in_found, (FOUND_WORD,), first))
