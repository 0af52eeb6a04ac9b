"""Tokens: runs and moments written flat, as lists of what their steps begin and end with.

A token is the index of a way that is no call, a tuple ("call", index) or ("in", index) where a
call begins, or None where a call ends. Of a context there are two lists: ahead of its gap and behind it.
"""


def tokens_of(row, tokens):
    """Return the tokens of a row as a tuple of two lists, the second one of a context only.

    tokens has those of the rows that it uses. The length of the row is small; where it is 0,
    there is nothing to write, however often.
    """
    word = row[0]
    if word == "steps":
        return (list(row[3]), [])
    if word == "call":
        return ([("call", row[2])] + tokens[row[3]][0] + [None], [])
    if word == "again" or word == "times":
        return _repeated(tokens[row[1]], row[2])
    if word == "run":
        return tokens[row[1]]
    if word == "around":
        return (tokens[row[1]][0] + [("call", row[2])], [None] + tokens[row[3]][0])
    if word == "filled":
        ahead, behind = tokens[row[1]]
        return (ahead + tokens[row[2]][0] + behind, [])
    if word == "enter":
        return (tokens[row[1]][0] + [("in", row[2])], [])
    if word == "moment" and row[1] is None:
        return tokens[row[2]]
    return _joined(tokens[row[1]], tokens[row[2]])


def steps_from(tokens):
    """Return the list of steps that tokens tell, each list in it a new one."""
    whole = []
    open_lists = [whole]
    for token in tokens:
        if token is None:
            open_lists.pop()
        elif isinstance(token, tuple):
            inner = []
            open_lists[-1].append((token[0], token[1], inner))
            open_lists.append(inner)
        else:
            open_lists[-1].append(token)
    return whole


def _joined(one, other):
    """Return the tokens of one and then other, or of a context in the gap of another one."""
    return (one[0] + other[0], other[1] + one[1])


def _repeated(told, many):
    ahead, behind = told
    if len(ahead) + len(behind) == 0:
        return told
    return (ahead * many, behind * many)
