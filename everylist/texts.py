"""The texts of loops."""

from everylist.errors import ListError, NoText
from everylist.loops import loop_of_parts
from everylist.ratios import read_number
from everylist.rows import Rows
from everylist.sums import read_long_sum


def loop_text(loop):
    """Returns the text of a loop."""
    kinds = loop.rows.kinds()
    names = loop.registers()
    lines = [" ".join(["rows", kind, *loop.rows.fields_of(kind)]) for kind in kinds]
    lines.extend([f"start {name} {loop.start(name)}" for name in names])
    for kind in kinds:
        for name in names:
            change = loop.change(kind, name)
            if change != name:
                lines.append(f"on {kind} {name} = {change}")
    lines.append(f"tell {loop.told()}")
    return "".join([f"{line}\n" for line in lines])


def read_loop(text):
    """Returns the loop whose text this is, or raises NoText."""
    if not isinstance(text, str):
        raise NoText(text)
    lines = [line.split(" ") for line in text.split("\n")]
    try:
        loop = _loop_told(lines)
    except ListError:
        raise NoText(text) from None
    # Each loop has one text only: other ways to write it are refused by writing the loop again.
    if loop_text(loop) != text:
        raise NoText(text)
    return loop


def _loop_told(lines):
    """Returns the loop that some lines, lists of words, tell in this or another way; what they tell besides is lost."""
    rows = Rows([[words[1], words[2:]] for words in lines if words[0] == "rows" and len(words) > 1])
    starts = {words[1]: read_number(words[2]) for words in lines if words[0] == "start" and len(words) > 2}
    registers = list(starts)
    changes = {}
    told = {}
    for words in lines:
        if words[0] == "on" and len(words) > 4:
            kind, name = words[1], words[2]
            sums = changes.setdefault(kind, {})
            sums[name] = _parts_of(words[4:], registers, rows.fields_of(kind))
        elif words[0] == "tell":
            told = _parts_of(words[1:], registers, [])
    return loop_of_parts(rows, starts, changes, told)


def _parts_of(words, registers, fields):
    """Returns the parts of the sum that some words tell."""
    return read_long_sum(" ".join(words), registers, fields)
