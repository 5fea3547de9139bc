"""What lies between bare pictures, and the one middle of three."""

from waysback.beginnings import beginnings_count
from waysback.errors import BadThird
from waysback.goings import put_behind, turned_back
from waysback.stocks import two_lots
from waysback.ways import is_way_from


def three_lots(way, other, third):
    """A stock, and the lots of three ways in it; raises what is due if they are none."""
    stock, mine, theirs = two_lots(way, other)
    if not is_way_from(third, way.book(), way.word()):
        raise BadThird(third)
    return stock, mine, theirs, stock.lot_of(third.steps())


def middle(way, other, third):
    """The one way that lies between each two of three."""
    stock, mine, theirs, last = three_lots(way, other, third)
    of_two = [number for number in mine if number in theirs or number in last]
    of_two.extend([number for number in theirs if number in last])
    return stock.way_of({number: True for number in of_two})


def is_between(way, other, third):
    """Whether third lies on a shortest road between way and other."""
    _, mine, theirs, last = three_lots(way, other, third)
    # It has all events that both have, and none that neither has.
    has_common = all([number in last for number in mine if number in theirs])
    return has_common and all([number in mine or number in theirs for number in last])


def between_count(way, other):
    """How many bare pictures lie between way and other, both among them."""
    return beginnings_count(put_behind(turned_back(way), other))
