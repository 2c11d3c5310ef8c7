"""Texts of CROWDs and Boards, there and back."""

from onehostmore.board import Board, settled
from onehostmore.books import Book
from onehostmore.errors import BadLine, BadText, NoBook, NoJob, NoKind, OtherKinds, Outside
from onehostmore.plain import is_kind

# The lines of a Board's text behind the first two, in the order in which they stand.
BOOK = 1
FRAME = 2
END = 3


def crowd_text(crowd):
    """The CROWD as a text."""
    return ", ".join([f"{kind} {number}" for kind, number in crowd]) if crowd else "-"


def crowd_in(text):
    """The CROWD with just this text; raises BadText."""
    pairs = [] if text == "-" else [_pair_in(part) for part in text.split(", ")]
    kinds = [kind for kind, _ in pairs]
    if kinds != sorted(set(kinds)):
        raise BadText()
    return tuple(pairs)


def _pair_in(text):
    """The pair of KIND and number, at least 1, that is so written; raises BadText."""
    kind, _, digits = text.partition(" ")
    number = number_in(digits)
    if not is_kind(kind) or number == 0:
        raise BadText()
    return (kind, number)


def number_in(text):
    """The number that is so written; raises BadText."""
    # isdigit would let digits of other scripts pass.
    if text == "" or not all(["0" <= sign <= "9" for sign in text]) or text[0] == "0" and text != "0":
        raise BadText()
    number = 0
    # int takes no more than some thousand digits.
    for sign in text:
        number = number * 10 + int(sign)
    return number


def kinds_in(line):
    """The kinds that a line tells that begins with this word, ascending; raises BadText."""
    word, *kinds = line.split(" ")
    if word != "kinds" or not all([is_kind(kind) for kind in kinds]) or kinds != sorted(set(kinds)):
        raise BadText()
    return tuple(kinds)


def board_text(board):
    """The Board as a text."""
    deeds = [what if word == "come" else f"-{what}" for word, what in board.row]
    lines = [" ".join(["kinds", *board.kinds]), " ".join(["row", *(deeds or ["*"])])]
    lines.extend([f"{name}: {board[name].text}" for name in board.names])
    for name, low, high in board.frames:
        lines.append(f"{name} from {_end_text(low)} .. {_end_text(high)}")
    return "\n".join([*lines, "end"])


def _end_text(text):
    return "*" if text is None else text


def board_in(text):
    """The Board with this text, with no deed to take back; raises BadLine."""
    lines = text.split("\n")
    board = Board()
    last = (0, "")
    for number, line in enumerate(lines):
        try:
            if number == 0:
                board = Board(kinds_in(line))
            elif number == 1:
                _read_row(board, line)
            else:
                last = _read_line(board, line, last)
        except (BadText, NoKind, NoJob, NoBook, OtherKinds, Outside):
            raise BadLine(number) from None
    if last[0] != END:
        raise BadLine(len(lines))
    return settled(board)


def _read_row(board, line):
    """Does the comings and goings that the line tells to the Board; raises BadText, NoKind, NoJob."""
    word, *deeds = line.split(" ")
    if word != "row" or not deeds:
        raise BadText()
    for deed in deeds:
        if deed.startswith("-"):
            board.go(number_in(deed[1:]))
        elif deeds != ["*"]:
            board.come(deed)


def _read_line(board, line, last):
    """Does what a BOOK's or frame's line tells; its place, behind the last one; raises BadText, OtherKinds .."""
    place, rest = _place_in(line)
    if place <= last:
        raise BadText()
    name = place[1]
    if place[0] == BOOK:
        board[name] = Book.of(rest)
    elif place[0] == FRAME:
        # Where there are no dots, high is the empty text, which no BOOK has.
        low, _, high = rest.partition(" .. ")
        board.frame(name, _end_in(low), _end_in(high))
    return place


def _place_in(line):
    """The place of a line, by which all lines ascend, and what stands behind its NAME; raises BadText."""
    if line == "end":
        return ((END, ""), "")
    for place, sign in ((BOOK, ": "), (FRAME, " from ")):
        # A line without the sign may be a NAME alone: then there is no rest, and no BOOK has the empty text.
        name, _, rest = line.partition(sign)
        if is_kind(name):
            return ((place, name), rest)
    raise BadText()


def _end_in(text):
    """An end of a frame: a BOOK, or None; raises BadText."""
    return None if text == "*" else Book.of(text)
