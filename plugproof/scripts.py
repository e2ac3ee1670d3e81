"""Scripts: calls as lines of words, there and back, and answers as text."""

from plugproof.calls import done
from plugproof.errors import BadScript
from plugproof.handles import KINDS, MODES
from plugproof.names import is_path
from plugproof.shape import is_whole
from plugproof.words import is_number_word, number_text, number_told, word_at

PATH = "path"
NUMBER = "number"
NUMBERS = "numbers"
MODE = "mode"
# What stands behind the user and each word of a call.
FORMS = {
    "make": ("path",), "create": ("path",), "link": ("path", "path"), "unlink": ("path",), "remove": ("path",),
    "move": ("path", "path"), "copy": ("path", "path"), "list": ("path",), "tell": ("path",),
    "give": ("path", "number"), "limit": ("number", "number"), "sync": (),
    "open": ("path", "mode"), "shut": ("number",), "read": ("number", "number"), "write": ("number", "numbers"),
    "seek": ("number", "number"), "cut": ("number", "number"), "lock": ("number", "kind"), "unlock": ("number",),
    "view": (), "view_list": ("number", "path"), "view_read": ("number", "path"), "view_tell": ("number", "path"),
    "end_view": ("number",),
}
NOTHING = "-"


def numbers_text(numbers):
    """The word of a row of numbers."""
    return ",".join([number_text(number) for number in numbers]) if len(numbers) > 0 else NOTHING


def word_of(form, thing):
    """The word that tells one thing of a call."""
    if form == PATH:
        return "/" + "/".join(thing)
    if form == NUMBER:
        return number_text(thing)
    return numbers_text(thing) if form == NUMBERS else thing


def line_of(call):
    """The line of a call."""
    words = [word_of(form, thing) for form, thing in zip(FORMS[call[0]], call[2:])]
    return " ".join([number_text(call[1]), call[0]] + words)


def write_script(calls):
    """The text of calls, a line for each."""
    return "\n".join([line_of(call) for call in calls])


def names_of(word):
    """The names of a path's word, which has a / ahead of each."""
    return () if word == "/" else tuple(word[1:].split("/"))


def is_path_word(word):
    """Whether a word is a path."""
    return word.startswith("/") and is_path(names_of(word))


def is_numbers_word(word):
    """Whether a word is a row of numbers."""
    return word == NOTHING or all([is_number_word(part) for part in word.split(",")])


def can_stand(form, word):
    """Whether a word tells a thing of this form."""
    if form == PATH:
        return is_path_word(word)
    if form == NUMBER:
        return is_number_word(word)
    if form == NUMBERS:
        return is_numbers_word(word)
    return word in (MODES if form == MODE else KINDS)


def thing_of(form, word):
    """The thing of this form that a word tells."""
    if form == PATH:
        return names_of(word)
    if form == NUMBER:
        return number_told(word)
    if form == NUMBERS:
        return () if word == NOTHING else tuple([number_told(part) for part in word.split(",")])
    return word


def check_word(holds, line, word):
    """BadScript with this line and word, if what must hold of it does not."""
    if not holds:
        raise BadScript(line, word)


def read_line(line, words):
    """The call that the words of a line tell."""
    user, word = word_at(words, 0), word_at(words, 1)
    check_word(is_number_word(user) and number_told(user) >= 0, line, 0)
    check_word(word in FORMS, line, 1)
    call = (word, number_told(user))
    for form in FORMS[word]:
        place = len(call)
        check_word(can_stand(form, word_at(words, place)), line, place)
        call = call + (thing_of(form, words[place]),)
    check_word(len(words) == len(call), line, len(call))
    return call


def read_script(text):
    """The tuple of the calls that a text tells; BadScript for the first word that cannot stand there."""
    lines = text.split("\n") if len(text) > 0 else []
    return tuple([read_line(line, words.split(" ")) for line, words in enumerate(lines)])


def value_text(value):
    """The text of what was answered: tuples in brackets, - for nothing."""
    if value is None:
        return NOTHING
    if isinstance(value, tuple):
        return "(" + " ".join([value_text(inner) for inner in value]) + ")"
    return number_text(value) if is_whole(value) else str(value)


def answer_text(answer):
    """The text of an answer: ok or no, and what was answered."""
    verdict, value = answer
    return verdict + " " + value_text(value)


def run_script(system, text):
    """The text of a system's answers to the calls of a script, a line for each."""
    answers = []
    for call in read_script(text):
        answers.append(answer_text(done(system, call)))
    return "\n".join(answers)
