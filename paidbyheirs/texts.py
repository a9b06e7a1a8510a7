"""TEXTS: what is told in lines, and read from them. What is told in [21]."""

from math import gcd

from paidbyheirs.crafts import is_craft
from paidbyheirs.errors import BadLine, Unfit
from paidbyheirs.forms import is_ascending

NOTHING = "-"
FIGURES = "0123456789"


def joined(names, sign):
    """These names with sign between, "-" if there are none."""
    return sign.join(names) if names else NOTHING


def numbers_name(numbers):
    """The name of a tuple of numbers."""
    return joined([str(number) for number in numbers], ",")


def pairs_name(pairs):
    """The name of a tuple of pairs of numbers."""
    return joined([f"{one}.{other}" for one, other in pairs], ",")


def sets_name(sets):
    """The name of a tuple of sets."""
    return joined([numbers_name(own) for own in sets], ";")


def takes_name(takes):
    """The name of what a KIND takes."""
    return joined([f"{numbers_name(flags)}:{numbers_name(part)}" for flags, part in takes], ";")


def giver_name(version, number):
    """The name of a giver."""
    told = NOTHING if number is None else number
    return f"{version}.{told}"


def givers_name(givers):
    """The name of the givers of a STEP."""
    return joined([giver_name(version, number) for version, number in givers], ",")


def kind_name(kind):
    """The name of a KIND."""
    number, takes, flags, parts = kind
    return f"{number}/{takes_name(takes)}/{numbers_name(flags)}/{sets_name(parts)}"


def fraction_name(fraction):
    """The name of a FRACTION."""
    number, many = fraction
    # Python writes a sign ahead of a number below 0 alone.
    return f"{number}/{many}"


def text_of(lines):
    """The text of these lines."""
    return "".join([f"{line}\n" for line in lines])


def slot_line(slot):
    """The line of a slot of a ROW."""
    if slot[0] == "new":
        return f"new {slot[1]} {pairs_name(slot[2])}"
    return " ".join([str(word) for word in slot])


def row_lines(row):
    """The list of the lines of a ROW."""
    elders, looks, cost, shape, slots = row
    return [f"row {numbers_name(elders)} {pairs_name(looks)} {cost} {shape}", *[slot_line(slot) for slot in slots]]


def craft_text(craft):
    """The text of a CRAFT."""
    sizes, rows = craft
    lines = [" ".join(["sizes", *[str(size) for size in sizes]])]
    for row in rows:
        lines.extend(row_lines(row))
    return text_of(lines)


def web_text(web):
    """The text of a WEB."""
    return text_of([f"version {row} {numbers_name(elders)}" for row, elders in web])


def plan_text(plan):
    """The text of a PLAN."""
    return text_of([f"step {kind_name(kind)} {givers_name(givers)}" for kind, givers in plan])


def bundle_text(bundle):
    """The text of a BUNDLE."""
    return text_of([f"kind {kind_name(kind)} {number}" for kind, number in bundle])


def number_read(word):
    """The number, from 0, that is written so; None if none is."""
    if word == "" or not all([sign in FIGURES for sign in word]) or word[0] == "0" and len(word) > 1:
        return None
    return int(word)


def all_read(words, read):
    """The tuple of what read tells of each of these words; None if it tells None of one."""
    told = [read(word) for word in words]
    return None if None in told else tuple(told)


def each_read(word, sign, read):
    """The tuple of what read tells of what stands between these signs, () for "-"; None if it tells None of some."""
    return () if word == NOTHING else all_read(word.split(sign), read)


def numbers_read(word):
    """The tuple of numbers with this name; None if there is none."""
    return each_read(word, ",", number_read)


def set_read(word):
    """The set of numbers with this name; None if there is none."""
    told = numbers_read(word)
    return told if told is not None and is_ascending(told) else None


def pair_read(word):
    """The pair of numbers with "." between; None if there is none."""
    words = word.split(".")
    return all_read(words, number_read) if len(words) == 2 else None


def pairs_read(word):
    """The tuple of pairs of numbers with this name; None if there is none."""
    return each_read(word, ",", pair_read)


def place_read(word):
    """The pair of flags and a part with ":" between; None if there is none."""
    words = word.split(":")
    return all_read(words, set_read) if len(words) == 2 else None


def giver_read(word):
    """The pair of a version and a number, or None, with "." between; None if there is none."""
    words = word.split(".")
    if len(words) != 2 or words[1] != NOTHING:
        return pair_read(word)
    version = number_read(words[0])
    return None if version is None else (version, None)


def givers_read(word):
    """The tuple of givers with this name; None if there is none."""
    return each_read(word, ",", giver_read)


def kind_read(word):
    """The tuple of the form of a KIND with this name; None if there is none."""
    words = word.split("/")
    if len(words) != 4:
        return None
    number, takes = number_read(words[0]), each_read(words[1], ";", place_read)
    flags, parts = set_read(words[2]), each_read(words[3], ";", set_read)
    if None in (number, takes, flags, parts) or () in parts or not is_ascending(parts):
        return None
    return (number, takes, flags, parts)


def fraction_read(word):
    """The FRACTION with this name; None if there is none."""
    below = word.startswith(NOTHING)
    told = all_read(word[int(below):].split("/"), number_read)
    if told is None or len(told) != 2:
        return None
    number, many = told
    if many == 0 or gcd(number, many) != 1 or below and number == 0:
        return None
    return (-number if below else number, many)


def lines_of(text):
    """The list of the lines of a text: one line break at its end begins no further one."""
    lines = text.split("\n")
    return lines if lines[-1] else lines[:-1]


def words_of(line, first, many):
    """The list of the words of a line behind this first one, so many; None if it is another line."""
    words = line.split(" ")
    return words[1:] if words[0] == first and len(words) == many + 1 else None


def sizes_read(line):
    """The tuple of the numbers of a line of sizes; None if it is none."""
    words = line.split(" ")
    return all_read(words[1:], number_read) if words[0] == "sizes" and len(words) > 1 else None


def row_read(line):
    """The tuple (elders, looks, cost, shape) of a line of a ROW; None if it is none."""
    words = words_of(line, "row", 4)
    if words is None:
        return None
    elders, looks, numbers = numbers_read(words[0]), pairs_read(words[1]), all_read(words[2:], number_read)
    if None in (elders, looks, numbers) or len(set(looks)) < len(looks):
        return None
    return (elders, looks, *numbers)


def slot_read(line):
    """What a line tells of a slot; None if it tells nothing."""
    if line == "none":
        return ("none",)
    words = line.split(" ")
    if len(words) != 3 or words[0] not in ("kept", "new"):
        return None
    told = number_read(words[1])
    other = number_read(words[2]) if words[0] == "kept" else pairs_read(words[2])
    if None in (told, other) or words[0] == "new" and not is_ascending(other):
        return None
    return (words[0], told, other)


def read_craft(text):
    """The CRAFT with this text; BadLine(number), then Unfit() if what is told is no CRAFT."""
    lines = lines_of(text)
    sizes = sizes_read(lines[0]) if lines else None
    if sizes is None:
        raise BadLine(0)
    rows = []
    for number in range(1, len(lines)):
        row, slot = row_read(lines[number]), slot_read(lines[number])
        if row is not None:
            rows.append(row + ((),))
        elif slot is not None and rows:
            rows[-1] = (*rows[-1][:4], (*rows[-1][4], slot))
        else:
            raise BadLine(number)
    if not rows:
        raise BadLine(len(lines))
    craft = (sizes, tuple(rows))
    if not is_craft(craft):
        raise Unfit()
    return craft


def each_line(text, read):
    """The tuple of what read tells of each line of a text; BadLine(number) for the first of which it tells None."""
    told = []
    for number, line in enumerate(lines_of(text)):
        own = read(line)
        if own is None:
            raise BadLine(number)
        told.append(own)
    return tuple(told)


def pair_in(line, first, read, other_read):
    """The pair of what the two words of a line behind this first one tell; None if it is another line."""
    words = words_of(line, first, 2)
    if words is None:
        return None
    told = (read(words[0]), other_read(words[1]))
    return None if None in told else told


def version_read(line):
    """The pair (row, elders) of a line; None if it is another line."""
    return pair_in(line, "version", number_read, numbers_read)


def step_read(line):
    """The pair (kind, givers) of a line; None if it is another line."""
    return pair_in(line, "step", kind_read, givers_read)


def counted_read(line):
    """The pair (kind, number) of a line, number from 1; None if it is another line."""
    told = pair_in(line, "kind", kind_read, number_read)
    return None if told is None or told[1] == 0 else told


def read_web(text):
    """The tuple of the pairs (row, elders) with this text; BadLine(number)."""
    return each_line(text, version_read)


def read_plan(text):
    """The tuple of the pairs (kind, givers) with this text; BadLine(number)."""
    return each_line(text, step_read)


def read_bundle(text):
    """The tuple of the pairs (kind, number) with this text, KINDS ascending; BadLine(number)."""
    told = []
    for number, line in enumerate(lines_of(text)):
        own = counted_read(line)
        if own is None or told and told[-1][0] >= own[0]:
            raise BadLine(number)
        told.append(own)
    if not told:
        raise BadLine(0)
    return tuple(told)
