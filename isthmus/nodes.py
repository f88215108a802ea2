"""Types and terms as nodes: equal ones are one node, so that what is found out about it is kept with it."""

from isthmus.forms import BINDERS, is_written, part_codes


class Node:
    """A type or term: its word, its parts (integers, names, nodes, tuples of nodes) and its free names."""

    def __init__(self, word, parts, free):
        self.word = word
        self.parts = parts
        self.free = free
        self.found_groupoids = {}
        self.found_actions = {}
        self.found_objects = {}
        self.found_arrows = {}


class Store:
    """All nodes of one run."""

    def __init__(self):
        self.nodes = {}

    def node(self, word, parts):
        """Return the one node with this word and these parts."""
        key = (word, parts)
        if key not in self.nodes:
            self.nodes[key] = Node(word, parts, free_names(word, parts))
        return self.nodes[key]

    def read(self, data):
        """Return the node of a written type or term."""
        parts = []
        for code, part in zip(part_codes(data[0]), data[1:]):
            if is_written(code):
                parts.append(self.read(part))
            elif code == "T*":
                parts.append(tuple([self.read(branch) for branch in part]))
            else:
                parts.append(part)
        return self.node(data[0], tuple(parts))


def written(part):
    """Return a type or term, or a part of one, as callers write it."""
    if isinstance(part, Node):
        return (part.word,) + written(part.parts)
    if isinstance(part, tuple):
        return tuple([written(one) for one in part])
    return part


def bound_names(word, parts):
    """Return a dict from the codes of the binders to the names that are bound."""
    return {code: part for code, part in zip(part_codes(word), parts) if code in BINDERS}


def free_names(word, parts):
    """Return the ascending tuple of the names of the context that a type or term mentions."""
    found = {}
    bound = bound_names(word, parts)
    for code, part in zip(part_codes(word), parts):
        if code == "use":
            found[part] = True
        elif code == "T*":
            found.update({name: True for branch in part for name in branch.free})
        elif is_written(code):
            hidden = bound.get(code[1:])
            found.update({name: True for name in part.free if name != hidden})
    return tuple(sorted(found))
