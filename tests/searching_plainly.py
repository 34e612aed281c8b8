"""A search, and a judge of what one tells, by the words of the document alone."""

from plainly import is_right
from turning import goes, is_plain, leads


def worths_of(node, many):
    return tuple(1 if k in node else 0 for k in range(1, many + 1))


def is_led_into(turn, elder, node):
    return {goes(turn, letter) for letter in elder} <= set(node)


def least_truth(many):
    return lambda node: min(set(range(1, many + 1)) - {abs(letter) for letter in node})


def search_by(problem, turns, ask):
    """The words and nodes of all ends in order, the answers, how many nodes, and the nodes that were asked about."""
    ends, found, nodes, asked, finished = [], [], [], [], []

    def visit(node):
        nodes.append(node)
        word = word_of(node)
        if word is None:
            asked.append(node)
            truth = ask(node)
            visit(node + (-truth,))
            visit(node + (truth,))
        else:
            ends.append((word, node))
            if word == "answer":
                found.append(worths_of(node, problem.many))
        finished.append(node)

    def word_of(node):
        if any(all(-letter in node for letter in clause) for clause in problem.clauses):
            return "lost"
        if any(is_led_into(turn, elder, node) for elder in finished for turn in turns):
            return "cut"
        return "answer" if len(node) == problem.many else None

    visit(())
    return ends, found, len(nodes), asked


class NoTree(Exception):
    pass


def is_part_plainly(thing, many):
    if type(thing) is not tuple or not all(is_plain(letter) and 1 <= abs(letter) <= many for letter in thing):
        return False
    return len({abs(letter) for letter in thing}) == len(thing)


def has_form(end, many):
    """Whether it is an end by the kinds of all that stands in it."""
    if type(end) is not tuple or not end or type(end[0]) is not str:
        return False
    if len(end) != {"lost": 3, "cut": 4, "answer": 2}.get(end[0]):
        return False
    return all(is_part_plainly(thing, many) for thing in end[1:])


def spans_of(nodes):
    """Of each node of the tree whose ends are of these nodes, in order, ahead of which place all of its ends came."""
    spans = {}

    def read(node, at):
        if at == len(nodes) or nodes[at][:len(node)] != node:
            raise NoTree
        if nodes[at] != node:
            letter = nodes[at][len(node)]
            if letter > 0:
                raise NoTree
            at = read(node + (-letter,), read(node + (letter,), at))
        else:
            at += 1
        spans[node] = at
        return at

    if read((), 0) != len(nodes):
        raise NoTree
    return spans


def is_right_end(problem, turns, spans, at, end):
    word, node, *more = end
    if word == "lost":
        return more[0] in problem.clauses and all(-letter in node for letter in more[0])
    if word == "cut":
        elder, turn = more
        return elder in spans and spans[elder] <= at and turn in turns and is_led_into(turn, elder, node)
    return len(node) == problem.many and is_right(problem.clauses, worths_of(node, problem.many))


def shows_by(problem, turns, told):
    many = problem.many
    if len(turns[0]) != many or not all(leads(turn, problem, problem) for turn in turns):
        return False
    if type(told) is not dict or len(told) != 3 or not all(type(key) is str for key in told):
        return False
    if set(told) != {"answers", "nodes", "ends"} or not is_plain(told["nodes"]):
        return False
    if type(told["answers"]) not in (list, tuple) or type(told["ends"]) not in (list, tuple):
        return False
    if not all(has_form(end, many) for end in told["ends"]):
        return False
    try:
        spans = spans_of([end[1] for end in told["ends"]])
    except NoTree:
        return False
    if not all(is_right_end(problem, turns, spans, at, end) for at, end in enumerate(told["ends"])):
        return False
    if not all(type(answer) is tuple and all(is_plain(worth) for worth in answer) for answer in told["answers"]):
        return False
    found = [worths_of(end[1], many) for end in told["ends"] if end[0] == "answer"]
    return list(told["answers"]) == found and told["nodes"] == len(spans)
