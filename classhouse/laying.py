"""The codes of trees (points 43 and 44)."""

from classhouse.coders import Coder
from classhouse.treeforms import singles_in, trees_in

# The steps whose words are others than those of their trees.
STEP_WORDS = {
    "num": "push",
    "at": "take",
    "set": "keep",
    "do": "drop",
}


def lay_tree(coder, tree):
    """Lays the code of an expression, or that of a statement without bodies behind its mark."""
    for one in trees_in(tree):
        coder.lay_mark()
        lay_tree(coder, one)
    coder.code.append((STEP_WORDS.get(tree[0], tree[0]), *singles_in(tree)))


def lay_number(coder, tree):
    """Lays the code of the number of an if or a while."""
    coder.lay_mark()
    lay_tree(coder, tree)


def lay_choice(coder, statement):
    """Lays the code of an if."""
    lay_number(coder, statement[1])
    choice = coder.lay_gap()
    lay_body(coder, statement[3])
    onward = coder.lay_gap()
    coder.fill(choice, "if")
    lay_body(coder, statement[2])
    coder.fill(onward, "go")


def lay_loop(coder, statement):
    """Lays the code of a while, whose number stands behind its body."""
    number = coder.lay_gap()
    begin = coder.here()
    lay_body(coder, statement[2])
    coder.fill(number, "go")
    lay_number(coder, statement[1])
    coder.code.append(("if", begin))


def lay_try(coder, statement):
    """Lays the code of a try, nothing if nothing is tried."""
    _, body, name, local, other = statement
    begin = coder.here()
    lay_body(coder, body)
    end = coder.here()
    if begin == end:
        return
    onward = coder.lay_gap()
    coder.rows.append((begin, end, name, coder.here()))
    coder.code.append(("keep", local))
    lay_body(coder, other)
    coder.fill(onward, "go")


def lay_body(coder, body):
    """Lays the code of a body."""
    for statement in body:
        coder.lay_mark()
        if statement[0] == "if":
            lay_choice(coder, statement)
        elif statement[0] == "while":
            lay_loop(coder, statement)
        elif statement[0] == "try":
            lay_try(coder, statement)
        else:
            lay_tree(coder, statement)


def laid_method(method, marked):
    """The coder with the code of a method of a book, with marks or without."""
    _, _, out, body = method
    coder = Coder(marked)
    lay_body(coder, body)
    if not body or body[-1][0] not in ("give", "throw"):
        coder.code.extend([("push", 0) if out == "num" else ("none",), ("give",)])
    return coder


def laid_class(row, marked):
    """A class of a book with codes in the place of bodies."""
    methods = []
    for method in row[3]:
        coder = laid_method(method, marked)
        methods.append((*method[:3], tuple(coder.code), tuple(coder.rows)))
    return *row[:3], tuple(methods)


def laid_classes(classes, marked):
    """The classes of a book with codes in the place of bodies, of whatever size."""
    return tuple([laid_class(row, marked) for row in classes])
