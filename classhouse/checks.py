"""The errors of the arguments that several functions take, raised in the order of the arguments."""

from classhouse.errors import BadKind, BadName, BadPlace, BadStep, BadWord, NoHouse, NotSeen
from classhouse.houses import House
from classhouse.lookup import class_of, is_class, method_at, nearest
from classhouse.order import is_kind
from classhouse.words import is_number, is_word


def check_house(house):
    """Raises NoHouse unless a value is a house."""
    if not isinstance(house, House):
        raise NoHouse("no House")


def check_name(house, name):
    """Raises NoHouse, or BadName unless a value is a class of the house."""
    check_house(house)
    if not is_class(house.classes, name):
        raise BadName("no class of the house")


def check_kind(house, kind):
    """Raises NoHouse, or BadKind unless a value is a kind of the house."""
    check_house(house)
    if not is_kind(house.classes, kind):
        raise BadKind("no kind of the house")


def check_word(house, name, word):
    """Raises what check_name does, or BadWord unless a value is a word."""
    check_name(house, name)
    if not is_word(word):
        raise BadWord("no word")


def check_seen(house, name, word):
    """Raises what check_word does, or NotSeen unless a method of the word is seen in the class."""
    check_word(house, name, word)
    if nearest(house.classes, name, word) is None:
        raise NotSeen("no method of the word is seen")


def check_place(house, name, place):
    """Raises what check_name does, or BadPlace unless a value is the place of one of the class's own methods."""
    check_name(house, name)
    if not is_number(place, len(class_of(house.classes, name)[3]) - 1):
        raise BadPlace("no method of the class")


def check_step(house, name, place, step):
    """Raises what check_place does, or BadStep unless a value is a step of the method's code."""
    check_place(house, name, place)
    if not is_number(step, len(method_at(house.classes, name, place)[3]) - 1):
        raise BadStep("no step of the code")
