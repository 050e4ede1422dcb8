"""The text of a document, read off the text that it is woven into."""

from wovendocs.lines import NotSuchText, PART_END, place_of, read_line
from wovendocs.signs import ANGLE_LEFT, ANGLE_RIGHT, AT, BLANK, COLON, HASH, LINE_END, SQUARE_RIGHT, coded, split_at
from wovendocs.woven import ended


# The document's lines, as far as they are read off.
class Unweaver:
    def __init__(self):
        self.lines = []
        self.is_within = False

    # Lines that begin otherwise follow from these, so nothing is read off them.
    def take_woven(self, line):
        start = line[:1]
        if start == [BLANK]:
            self.end_part()
            self.lines.append(line[1:])
        elif start == [HASH]:
            self.end_part()
            self.lines.append(unwoven_header(line))
            self.is_within = True
        elif start == [COLON]:
            self.lines.append(unwoven_line(line[1:]))

    def end_part(self):
        if self.is_within:
            self.lines.append(coded(PART_END))
        self.is_within = False


# The text of the only document that may be woven into this text; NotSuchText where none may be. Whether it is a
# document's, and woven into just this text, is left open: reading and weaving it tells that of every byte.
def unwoven_text(text):
    unweaver = Unweaver()
    for line in split_at(text, LINE_END)[:-1]:
        unweaver.take_woven(line)
    unweaver.end_part()
    return ended(unweaver.lines)


def unwoven_header(line):
    header = [AT] + line[place_of(line, BLANK, 0) + 1:]
    # No header holds an angle bracket, so what begins with one is a neighbour's number.
    for bracket in (ANGLE_LEFT, ANGLE_RIGHT):
        if bracket in header:
            header = header[:header.index(bracket) - 1]
    return header


def unwoven_line(woven):
    text = []
    at = 0
    # The numbers in square brackets are plain signs, so the uses are found as in a line without them.
    for use in read_line(woven).uses:
        # A use that stands ahead of the bracket of the one before. Were it let by, each of many uses might be
        # searched to the end of a long line.
        if use.end < at:
            raise NotSuchText()
        text.extend(woven[at:use.end])
        at = place_of(woven, SQUARE_RIGHT, use.end) + 1
    return text + woven[at:]
