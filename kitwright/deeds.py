"""Deeds of projects, told by tuples."""

# How many items a deed has, its word among them.
SIZES = {"want": 3, "drop": 2, "publish": 4, "withdraw": 3, "renew": 1, "step": 3, "undo": 1}


def is_deed(value):
    """Whether any value has the form of a deed, or of what takes one back."""
    if not isinstance(value, tuple) or not value or not isinstance(value[0], str):
        return False
    return value[0] in SIZES and SIZES[value[0]] == len(value)


def do_deed(project, deed):
    """Does a deed, told by its form, or refuses it as the project does."""
    word, *told = deed
    if word == "want":
        project.want(told[0], told[1])
    elif word == "drop":
        project.drop(told[0])
    elif word == "publish":
        project.publish(told[0], told[1], told[2])
    elif word == "withdraw":
        project.withdraw(told[0], told[1])
    elif word == "renew":
        project.renew()
    elif word == "step":
        project.step(told[0], told[1])
    else:
        project.undo()
