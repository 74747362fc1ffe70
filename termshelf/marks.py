"""Names, letters, spots and numbers, as things and as texts."""

from termshelf.errors import NoLetter, NoNumber

MOST_PLAIN = 9999

_SMALL = "abcdefghijklmnopqrstuvwxyz"
_CAPITALS = "ABCDEFGHIJKLMNOPQRSTUVWXYZ"
_FIGURES = "0123456789"
_MOST_NAME = 8
_MOST_LETTER = 3
_MOST_BEHIND = 99
_MOST_FIGURES = 30
_MOST_SPOT = 16
_MOST_PART = 3


def is_list(thing, low, high):
    """Whether a thing is a list or a tuple of so many things."""
    return isinstance(thing, (list, tuple)) and low <= len(thing) <= high


def is_whole(thing, low, high):
    # Python counts True and False as numbers, this package doesn't.
    return isinstance(thing, int) and not isinstance(thing, bool) and low <= thing <= high


def _consists_of(text, marks):
    # Marks are stripped from both ends as far as there are any, so nothing is left just of a text of these alone.
    return text.strip(marks) == ""


def is_name(thing):
    return isinstance(thing, str) and 1 <= len(thing) <= _MOST_NAME and _consists_of(thing, _SMALL)


def is_letter(thing):
    if not isinstance(thing, str) or not 1 <= len(thing) <= _MOST_LETTER or thing[0] not in _CAPITALS:
        return False
    return len(thing) == 1 or _is_figures(thing[1:])


def _is_figures(text):
    return _consists_of(text, _FIGURES) and (text[0] != "0" or len(text) == 1)


def is_spot(thing):
    if not isinstance(thing, tuple) or len(thing) > _MOST_SPOT:
        return False
    return all([is_whole(number, 0, _MOST_PART) for number in thing])


def rank_among_letters(letter):
    """The rank of what is known to be a letter; without a number it is shorter, which Python puts ahead."""
    return (letter,) if len(letter) == 1 else (letter[0], int(letter[1:]))


def letter_rank(letter):
    if not is_letter(letter):
        raise NoLetter(letter)
    return rank_among_letters(letter)


def normal_letter(number):
    if not is_whole(number, 0, _MOST_BEHIND):
        raise NoNumber(number)
    return f"N{number}"


def _is_plain(thing):
    return isinstance(thing, str) and 1 <= len(thing) <= _MOST_FIGURES and _is_figures(thing)


def number_in(thing, *, low=0, high=MOST_PLAIN):
    if not _is_plain(thing):
        return None
    number = int(thing)
    return number if low <= number <= high else None


def words_in(thing):
    if not isinstance(thing, str):
        return None
    words = thing.split(" ")
    if any([word == "" or "\n" in word for word in words]):
        return None
    return words


def rows_in(thing):
    return thing.split("\n") if isinstance(thing, str) else None
