"""Papers: tuples of texts for which audits tell None, so that what was told need not be trusted."""

from waysback.booktexts import book_text
from waysback.carrying import conjugate
from waysback.errors import BadOther, BadThird
from waysback.events import events
from waysback.goings import put_behind, turned_back
from waysback.merges import merged
from waysback.middles import middle
from waysback.moves import moves
from waysback.movetexts import moves_text
from waysback.roots import root
from waysback.straights import straight
from waysback.unlikes import unlike_paper
from waysback.ways import is_way_from, need_way
from waysback.waytexts import way_text


def paper(ways, further):
    """The tuple of the text of the book of ways, of their texts, and of further texts."""
    texts = [book_text(ways[0].book())] + [way_text(way) for way in ways]
    return tuple(texts + further)


def alike_paper(way, other):
    """The paper that two ways are alike, for audit_alike; None if they are not."""
    told = moves(way, other)
    if told is None:
        return None
    return paper([way, other], [moves_text(way, told)])


def parted_paper(way, other):
    """The paper that two ways are unlike, for audit_unlike; None if they are alike."""
    told = unlike_paper(way, other)
    if told is None:
        return None
    return paper([way, other], [moves_text(way, told[0]), moves_text(other, told[1])])


def two_merged(base, line, other):
    """What merged tells of base and two lines; raises what is due if they are none."""
    need_way(base)
    if not is_way_from(line, base.book(), base.word()):
        raise BadOther(line)
    if not is_way_from(other, base.book(), base.word()):
        raise BadThird(other)
    return merged(base, [line, other])


def merge_paper(base, line, other):
    """The paper of what two lines are merged to, for audit_merge; None if they are at odds."""
    told = two_merged(base, line, other)
    if told[0] == "odds":
        return None
    return paper([base, line, other], [way_text(told[1])])


def odds_paper(base, line, other):
    """The paper that two lines can't be merged, for audit_odds; None if they can."""
    told = two_merged(base, line, other)
    if told[0] == "way":
        return None
    back = turned_back(base)
    first = events(put_behind(back, line))[told[3]]
    second = events(put_behind(back, other))[told[4]]
    return paper([base, line, other], [way_text(first), way_text(second)])


def middle_paper(way, other, third):
    """The paper of the middle of three ways, for audit_middle."""
    return paper([way, other, third], [way_text(middle(way, other, third))])


def carrying_paper(way, other):
    """The paper that one round is carried to another, for audit_carrying; None if conjugate tells no way."""
    told = conjugate(way, other)
    if told[0] != "way":
        return None
    ahead = put_behind(way, told[1])
    led = moves(ahead, put_behind(told[1], other))
    return paper([way, other], [way_text(told[1]), moves_text(ahead, led)])


def rings_paper(way, other):
    """The paper that unlike rings part two rounds, for audit_rings; None if conjugate tells no such."""
    if conjugate(way, other)[0] != "unlike":
        return None
    return paper([way, other], [way_text(straight(way)[0]), way_text(straight(other)[0])])


def root_paper(way):
    """The paper of the one root of a round, for audit_root; None if it is alike to no steps."""
    told, number = root(way)
    if number == 0:
        return None
    return paper([way], [way_text(told), str(number), way_text(straight(told)[0])])
