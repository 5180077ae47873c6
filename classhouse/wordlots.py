"""Lots of words, and the classes that see them (point 31)."""

from classhouse.checks import check_house
from classhouse.errors import BadNames, BadWords
from classhouse.lookup import class_of, is_class, line_up, names_of
from classhouse.words import is_word


def check_words(house, words):
    """Raises NoHouse, or BadWords unless any value is a lot of words: an ascending tuple of unlike ones."""
    check_house(house)
    if not isinstance(words, tuple) or not all([is_word(word) for word in words]):
        raise BadWords("no tuple of words")
    if not all([one < other for one, other in zip(words, words[1:])]):
        raise BadWords("the words do not ascend")


def check_names(house, names):
    """Raises NoHouse, or BadNames unless any value is a tuple of unlike classes, one or more."""
    check_house(house)
    if not isinstance(names, tuple) or not names:
        raise BadNames("no tuple of classes")
    for index, name in enumerate(names):
        if not is_class(house.classes, name) or name in names[:index]:
            raise BadNames("no class, or one that stands earlier, too")


def words_seen(classes, name):
    """The lot of the words of the methods that are seen in a class."""
    return tuple(sorted({method[0] for upper in line_up(classes, name) for method in class_of(classes, upper)[3]}))


def shared_words(one, other):
    """The lot of the words that two lots both have."""
    return tuple([word for word in one if word in other])


def all_words(classes):
    """The lot of all words of methods of a house."""
    return tuple(sorted({method[0] for row in classes for method in row[3]}))


def names_that_have(classes, words):
    """The tuple of the classes in which methods of all words of a lot are seen, "top" ahead."""
    return tuple([name for name in names_of(classes) if shared_words(words, words_seen(classes, name)) == words])


def words_of_all(classes, names):
    """The lot of the words that are seen in each of some classes."""
    words = all_words(classes)
    for name in names:
        words = shared_words(words, words_seen(classes, name))
    return words


def who_has(house, words):
    """The tuple of the classes in which methods of all words of a lot are seen, "top" ahead if it is one."""
    check_words(house, words)
    return names_that_have(house.classes, words)


def first_who(house, words):
    """The tuple of the classes of who_has whose class above is none of these."""
    names = who_has(house, words)
    return tuple([name for name in names if class_of(house.classes, name)[1] not in names])


def seen_by_all(house, names):
    """The lot of the words that are seen in each of some classes."""
    check_names(house, names)
    return words_of_all(house.classes, names)


def closed_words(house, words):
    """The lot of the words that all classes of who_has see, all words of the house if there is no such class."""
    names = who_has(house, words)
    # Of no classes, words_of_all tells all words of the house.
    return words_of_all(house.classes, names)


def closed_lots(house):
    """The list of all lots of words of the house that are their own closed_words, the smaller first."""
    check_house(house)
    lots = [all_words(house.classes)]
    # What is closed, but all words, is what some classes all see.
    for name in names_of(house.classes):
        seen = words_seen(house.classes, name)
        for lot in list(lots):
            shared = shared_words(lot, seen)
            if shared not in lots:
                lots.append(shared)
    return [lot for _, lot in sorted([(len(lot), lot) for lot in lots])]
