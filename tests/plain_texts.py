"""A second, plain telling of texts, of the shapes in `plain`, and of which texts are values."""

import re


def show_value(shape):
    if isinstance(shape, int):
        return "%d" % shape
    if shape[0] in ["cell", "passed"]:
        return shape[1] if shape[0] == "cell" else "?"
    if shape[0] == "~":
        return "~" + show_value(shape[1])
    return "(%s %s %s)" % (show_value(shape[1]), shape[0], show_value(shape[2]))


def show_steps(shapes):
    told = []
    for shape in shapes:
        if shape[0] == "put":
            told.append("put %s %s" % (shape[1], show_value(shape[2])))
        elif shape[0] == "answer":
            told.append("answer %s" % show_value(shape[1]))
        else:
            parts = (show_value(shape[1]), show_steps(shape[2]), show_steps(shape[3]))
            told.append("when %s {%s} else {%s}" % parts)
    return "; ".join(told)


def show_service(shape):
    own, common, kinds = shape
    told = ["".join([word] + [" %s:%d" % row for row in rows]) for word, rows in [("own", own), ("common", common)]]
    return "; ".join(told + ["kind %s:%d {%s}" % (name, many, show_steps(steps)) for name, many, steps in kinds])


ATOM = re.compile(r"[a-z]{1,8}|\?|0|-?[1-9][0-9]{0,19}")
WORD = re.compile(r" (?:\+|-|\*|//|&|\||mod|=|#) |[a-z]+|-?[0-9]+|.")
PART = r"<(\d+)!?>"


def is_value(text):
    """Tells whether a text is that of a value of at most 12 signs.

    For each part that is a value of n signs it puts <n>, for an integer from 1 on,
    which alone may stand behind // and mod, it puts <0!>, and the sign < is # meanwhile.
    """
    if re.search("[<>!#]", text.replace(" < ", "")):
        return False
    told = ""
    for word in WORD.findall(text.replace(" < ", " # ")):
        if word[0] in " ()~":
            told += word
        elif ATOM.fullmatch(word):
            told += "<0!>" if word[0] in "123456789" else "<0>"
        else:
            return False
    before = None
    while told != before:
        before = told
        told = re.sub("~" + PART, lambda found: "<%d>" % (1 + int(found[1])), told)
        told = re.sub(r"\(%s (?:\+|-|\*|&|\||=|#) %s\)" % (PART, PART),
                      lambda found: "<%d>" % (1 + int(found[1]) + int(found[2])), told)
        told = re.sub(r"\(%s (?://|mod) <0!>\)" % PART, lambda found: "<%d>" % (1 + int(found[1])), told)
    found = re.fullmatch(PART, told)
    return found is not None and int(found[1]) <= 12
