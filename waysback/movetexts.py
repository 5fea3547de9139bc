"""Texts of moves: a line for each move of a way."""

from waysback.errors import BadMoves
from waysback.readings import first_wrong, gone_on, scanned
from waysback.trails import Trail, first_unmoved
from waysback.ways import need_way
from waysback.waytexts import number_told, step_line, step_told
from waysback.words import is_row


def move_line(move):
    """The line of a move."""
    if move[0] == "put":
        return f"put {move[1]} {step_line(move[2])}"
    return f"{move[0]} {move[1]}\n"


def moves_text(way, moves):
    """The text of these moves of way."""
    need_way(way)
    if not is_row(moves):
        raise BadMoves(0)
    index = first_unmoved(Trail(way), moves)
    if index is not None:
        raise BadMoves(index)
    return "".join([move_line(move) for move in moves])


def move_told(line):
    """What line, up to its line feed, may tell as a move; None if it tells none."""
    parts = line.removesuffix("\n").split(" ")
    if len(parts) == 2:
        return parts[0], number_told(parts[1])
    if len(parts) == 5:
        return parts[0], number_told(parts[1]), step_told(" ".join(parts[2:]))
    return None


def scan_wrong_move(trail, reading):
    """Reads what stands next as far as a move that can be done now has a line that begins so."""
    indexes = {"exchange ": trail.apart(), "strike ": trail.undone(), "put ": trail.open_to_steps()}
    kind = reading.take([begun for begun, found in indexes.items() if found != []])
    if kind == "put ":
        index = reading.take([f"{at} " for at in indexes[kind]])
        if index != "":
            reading.take([step_line(step) for step in trail.steps_at(int(index[:-1]))])
    elif kind != "":
        reading.take([f"{at}\n" for at in indexes[kind]])


def scan_moves(way, reading):
    """The list of the moves of way whose lines stand next, and the steps to which they lead."""
    trail = Trail(way)
    told = []
    while not reading.ended():
        line = reading.line()
        move = move_told(line)
        if trail.do(move):
            told.append(move)
            reading.take([line])
        else:
            # Only a wrong line is held beside those of all moves: they are many.
            scan_wrong_move(trail, reading)
    return told, trail.row()


def steps_led(way, text):
    """The list of the steps to which the moves of way of this text lead; BadText for what is none."""
    return scanned(lambda reading: scan_moves(way, reading), text)[1]


def read_moves(way, text):
    """The list of the moves of way of this text."""
    need_way(way)
    return scanned(lambda reading: scan_moves(way, reading), text)[0]


def moves_fault(way, text):
    """The index of the first wrong sign, None for a text of moves of way."""
    need_way(way)
    return first_wrong(lambda reading: scan_moves(way, reading), text)


def moves_go_on(way, text):
    """A text of moves of way that begins with text, None if there is none."""
    need_way(way)
    return gone_on(lambda reading: scan_moves(way, reading), text)
