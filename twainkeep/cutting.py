"""Texts cut into trees by rules, and sewn together again."""


def longest_at(text, place, choices):
    # Without a choice that stands there it is 0: no choice is the empty text.
    return max([len(choice) for choice in choices if text.startswith(choice, place)], default=0)


def pieces_of(text, level):
    marks = level[0]
    kept = level[1]
    pieces = []
    begin = 0
    place = 0
    while place < len(text):
        passed = longest_at(text, place, kept)
        ended = 0 if passed else longest_at(text, place, marks)
        place += max(passed, ended, 1)
        if ended:
            pieces.append(text[begin:place])
            begin = place
    if begin < len(text):
        pieces.append(text[begin:])
    return tuple(pieces)


def cut_up(text, rules):
    pieces = pieces_of(text, rules[0])
    if len(rules) == 1:
        return pieces
    return tuple([cut_up(piece, rules[1:]) for piece in pieces])


def nodes_of(tree, path):
    # A tuple comes ahead of what lies within it: so the paths rise.
    nodes = [(path, tree)]
    if isinstance(tree, tuple):
        for k, branch in enumerate(tree):
            nodes.extend(nodes_of(branch, path + (k,)))
    return nodes


def leaves(tree):
    return tuple([node for node in nodes_of(tree, ()) if isinstance(node[1], str)])


def sewn(tree):
    return "".join([leaf[1] for leaf in leaves(tree)])


def tally(tree, words):
    counts = {}
    for path, node in nodes_of(tree, ()):
        if isinstance(node, tuple):
            counts[path] = {}
    for leaf, word in zip(leaves(tree), words):
        add_along(counts, leaf[0], word)
    return tuple([(path, tuple(sorted(within.items()))) for path, within in counts.items()])


def add_along(counts, path, word):
    for depth in range(len(path)):
        within = counts[path[:depth]]
        within[word] = within.get(word, 0) + 1
