"""The texts of values, steps and services."""


def show_value(value):
    """Returns the text of a value."""
    sign, parts = value.sign, value.parts
    if sign == "cell":
        return parts[0]
    if sign == "number":
        return str(parts[0])
    if sign == "passed":
        return "?"
    if sign == "~":
        return "~" + show_value(parts[0])
    return "(" + " ".join([show_value(parts[0]), sign, show_value(parts[1])]) + ")"


def show_steps(steps):
    """Returns the texts of a list of steps, separated by semicolons and a space."""
    return "; ".join([_show_step(step) for step in steps])


def _show_step(step):
    if step.sign == "put":
        name, value = step.parts
        return " ".join(["put", name, show_value(value)])
    if step.sign == "answer":
        return "answer " + show_value(step.parts[0])
    value, steps, others = step.parts
    return " ".join(["when", show_value(value), _in_braces(steps), "else", _in_braces(others)])


def _in_braces(steps):
    return "{" + show_steps(steps) + "}"


def show_service(service):
    """Returns the text of a service."""
    own = "".join([" " + _show_pair(name, size) for name, size in service.own])
    common = "".join([" " + _show_pair(name, size) for name, size in service.common])
    kinds = [" ".join(["kind", _show_pair(name, many), _in_braces(service[name])]) for name, many in service.kinds]
    return "; ".join(["own" + own, "common" + common] + kinds)


def _show_pair(name, many):
    return name + ":" + str(many)
