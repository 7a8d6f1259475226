"""Texts of posts, crowds and exits: how they are written and read."""

from swingposts.crowds import is_crowd
from swingposts.errors import InvalidCrowd, InvalidExits, InvalidText
from swingposts.exits import is_exits
from swingposts.posts import check_posts, is_posts

DIGITS = "0123456789"
PART_DIGITS = 64
PART = 10 ** 64


def write_number(number):
    """Return the digits of a number from 0 on."""
    # Python itself writes and reads only numbers of up to 4300 digits, so long ones go part by part.
    parts = []
    rest = number
    while rest >= PART:
        rest, part = divmod(rest, PART)
        parts.append(str(part).zfill(PART_DIGITS))
    parts.append(str(rest))
    return "".join(parts[::-1])


def read_number(text):
    """Return the number that is written with these digits, without leading zeros; raise InvalidText for others."""
    if text == "" or not all([sign in DIGITS for sign in text]):
        raise InvalidText()
    if text[0] == "0" and text != "0":
        raise InvalidText()
    number = 0
    for sign in text:
        number = 10 * number + int(sign)
    return number


def read_words(text):
    """Return the words of a text, which one space separates; raise InvalidText for any value that is no text."""
    if not isinstance(text, str):
        raise InvalidText()
    return text.split(" ") if text != "" else []


def format_posts(posts):
    """Return the text of posts."""
    check_posts(posts)
    return " ".join([side + write_number(count) for side, count in posts])


def format_crowd(crowd):
    """Return the text of a crowd."""
    if not is_crowd(crowd):
        raise InvalidCrowd()
    return " ".join([f"{write_number(place)}x{write_number(count)}" for place, count in crowd])


def format_exits(seen):
    """Return the text of a list of exits."""
    if not is_exits(seen):
        raise InvalidExits()
    return " ".join([write_number(place) + end for place, end in seen])


def parse_posts(text):
    """Return the posts that the text stands for."""
    posts = tuple([(word[:1], read_number(word[1:])) for word in read_words(text)])
    if not is_posts(posts):
        raise InvalidText()
    return posts


def parse_crowd(text):
    """Return the crowd that the text stands for."""
    crowd = []
    for word in read_words(text):
        place, _, count = word.partition("x")
        crowd.append((read_number(place), read_number(count)))
    if not is_crowd(crowd):
        raise InvalidText()
    return crowd


def parse_exits(text):
    """Return the list of exits that the text stands for."""
    seen = [(read_number(word[:-1]), word[-1:]) for word in read_words(text)]
    if not is_exits(seen):
        raise InvalidText()
    return seen
