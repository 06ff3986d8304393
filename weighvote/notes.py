"""Notes: a council written as a text, and read from just such a text."""

from weighvote.councils import Council
from weighvote.errors import BadText
from weighvote.groups import MOST_MEMBERS, groups_of, members_of

NOBODY = "-"


def written(council):
    return str(council.members) + ":" + "".join([" " + group_text(group) for group in council.least()])


def group_text(group):
    if group == 0:
        return NOBODY
    return "".join([str(member) for member in members_of(group)])


# Whatever the parts let through, a text that is not just what would be written is refused at the end.
def read(text):
    if not isinstance(text, str):
        raise BadText("no text")
    members = members_read(text[:1])
    council = Council(members, groups_read(text[2:], members))
    if written(council) != text:
        raise BadText("a council is not written so")
    return council


def members_read(figure):
    figures = [str(members) for members in range(1, MOST_MEMBERS + 1)]
    if figure not in figures:
        raise BadText("a text begins with a count of 1 to 5 members")
    return int(figure)


def groups_read(text, members):
    known = [group_text(group) for group in groups_of(members)]
    words = text.split(" ")[1:]
    if not all([word in known for word in words]):
        raise BadText("no group of so many members is written so")
    return [known.index(word) for word in words]
