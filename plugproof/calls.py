"""Calls as plain tuples: (word, user, what it is about ..), and answers to them."""

from plugproof.errors import Refused

# How many things each word is about.
SIZES = {
    "make": 1, "create": 1, "link": 2, "unlink": 1, "remove": 1, "move": 2, "copy": 2, "list": 1, "tell": 1, "give": 2,
    "limit": 2, "sync": 0, "open": 2, "shut": 1, "read": 2, "write": 2, "seek": 2, "cut": 2, "lock": 2, "unlock": 1,
    "view": 0, "view_list": 2, "view_read": 2, "view_tell": 2, "end_view": 1,
}
PHYSICAL = ("full", "quota", "great")


def is_call(thing):
    """Whether any thing is a tuple or list of a word, a user and as many things as the word is about."""
    if not isinstance(thing, (tuple, list)) or len(thing) == 0:
        return False
    word = thing[0]
    return isinstance(word, str) and word in SIZES and len(thing) == 2 + SIZES[word]


def answer_of_views(system, word, user, things):
    """What a system answers to a call on views."""
    match word:
        case "view":
            return system.view(user)
        case "view_list":
            return system.view_list(user, things[0], things[1])
        case "view_read":
            return system.view_read(user, things[0], things[1])
        case "view_tell":
            return system.view_tell(user, things[0], things[1])
        case _:
            return system.end_view(user, things[0])


def answer_of_handles(system, word, user, things):
    """What a system answers to a call on handles or views."""
    match word:
        case "open":
            return system.open_file(user, things[0], things[1])
        case "shut":
            return system.shut(user, things[0])
        case "read":
            return system.read(user, things[0], things[1])
        case "write":
            return system.write(user, things[0], things[1])
        case "seek":
            return system.seek(user, things[0], things[1])
        case "cut":
            return system.cut(user, things[0], things[1])
        case "lock":
            return system.lock(user, things[0], things[1])
        case "unlock":
            return system.unlock(user, things[0])
        case _:
            return answer_of_views(system, word, user, things)


def answer_of(system, word, user, things):
    """What a system answers to a call, by its word."""
    match word:
        case "make":
            return system.make(user, things[0])
        case "create":
            return system.create(user, things[0])
        case "link":
            return system.link(user, things[0], things[1])
        case "unlink":
            return system.unlink(user, things[0])
        case "remove":
            return system.remove(user, things[0])
        case "move":
            return system.move(user, things[0], things[1])
        case "copy":
            return system.copy(user, things[0], things[1])
        case "list":
            return system.list_dir(user, things[0])
        case "tell":
            return system.tell(user, things[0])
        case "give":
            return system.give(user, things[0], things[1])
        case "limit":
            return system.limit(user, things[0], things[1])
        case "sync":
            return system.sync(user)
        case _:
            return answer_of_handles(system, word, user, things)


def done(system, call):
    """A system's answer to a call, any thing: ("ok", answer) or ("no", word of refusal)."""
    if not is_call(call):
        return "no", "call"
    try:
        system.check_user(call[1])
        return "ok", answer_of(system, call[0], call[1], call[2:])
    except Refused as refused:
        return "no", refused.word


def is_physical(answer):
    """Whether an answer is a refusal that tells of room alone."""
    return answer[0] == "no" and answer[1] in PHYSICAL
