"""Lines for a workshop, and the texts of what they tell."""

from stringrods.rods import is_rod
from stringrods.spaces import is_point
from stringrods.tables import is_table
from stringrods.wishes import is_name

DIGITS = "0123456789"
BLANK = " "
MARK = ": "
PART = "; "
# How many names stand behind the word of each line that has names alone: the least and the most.
LEAST_NAMES = {"forget": 1, "undo": 0, "show": 1, "product": 2, "gap": 2, "count": 1, "names": 0}
MOST_NAMES = {"forget": 1, "undo": 0, "show": 1, "product": 2, "gap": 2, "count": 8, "names": 0}


def number_in(text):
    """Return the whole number with this text, None if there is none."""
    digits = text[1:] if text.startswith("-") else text
    if digits == "" or not all([digit in DIGITS for digit in digits]):
        return None
    if digits[0] == "0" and text != "0":
        return None
    return int(text)


def row_in(text):
    """Return the row with this text, None if there is none."""
    numbers = [number_in(word) for word in text.split(BLANK)]
    if any([number is None for number in numbers]):
        return None
    return tuple(numbers)


def rows_in(text):
    """Return the tuple of the rows with this text, None for each one that is none."""
    return tuple([row_in(part) for part in text.split(PART)])


def rod_in(text):
    """Return the rod with this text, None if there is none."""
    row = row_in(text)
    return row if is_rod(row) else None


def two_points_in(text):
    """Return the pair of points with this text, None if there is none."""
    rows = rows_in(text)
    if len(rows) != 2 or not all([is_point(row) for row in rows]):
        return None
    return rows


def table_in(text):
    """Return the table with this text, None if there is none."""
    rows = rows_in(text)
    return rows if is_table(rows) else None


# How to read what stands behind the mark.
READERS = {"rod": rod_in, "join": two_points_in, "move": table_in}


def phrase_in(line):
    """Return the word of a line, its names and what stands behind the mark, None for what is no line."""
    if not isinstance(line, str):
        return None
    head, mark, tail = line.partition(MARK)
    parts = head.split(BLANK)
    word, names = parts[0], tuple(parts[1:])
    if not all([is_name(name) for name in names]):
        return None
    if mark == "":
        if word not in LEAST_NAMES or len(names) < LEAST_NAMES[word] or len(names) > MOST_NAMES[word]:
            return None
        return word, names, None
    if word not in READERS or len(names) != 1:
        return None
    reader = READERS[word]
    told = reader(tail)
    return None if told is None else (word, names, told)


def row_text(row):
    """Return the text of a row of whole numbers."""
    return " ".join([str(number) for number in row])


def fraction_text(fraction):
    """Return the text of a fraction."""
    number, part = fraction
    return str(number) if part == 1 else str(number) + "/" + str(part)


def names_text(names):
    """Return the text of names."""
    return " ".join(names) if names else "none"
