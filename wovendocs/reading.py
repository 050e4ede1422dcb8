"""A text read into a document, or its first fault found."""

from wovendocs.document import Document, ELSE, END_OF_IF, IF, Prose
from wovendocs.lines import NotSuchText, PART_END, begins_with, read_header, read_line
from wovendocs.signs import LINE_END, coded, is_sign, split_at

MOST_LINE_BYTES = 200
MOST_BLOCKS = 200
MOST_PARTS = 60
MOST_LINES = 400
MOST_CONDITIONS = 6

NO_FAULT = 0
NOT_PLAIN = 1
NO_HEADER = 2
NO_LINE = 3
NOT_PAIRED = 4
NOT_TOLD = 5
TOO_MANY = 6
OTHER_PARAMETERS = 7
NO_END = 8


# A text's first fault: the number of its line, and the reason.
class Fault:
    def __init__(self, line, reason):
        self.line = line
        self.reason = reason


# The document as far as it is read, and the part that one is within. What takes a line gives back a reason.
class Reader:
    def __init__(self):
        self.document = Document()
        self.line_count = 0
        self.part = None
        # For each condition that has no end yet, whether it has had its else.
        self.conditions = []

    def take(self, text):
        if len(text) > MOST_LINE_BYTES or not all([is_sign(byte) for byte in text]):
            return NOT_PLAIN
        if self.part is not None:
            return self.take_within(text)
        if begins_with(text, "@") and not begins_with(text, "@@"):
            return self.take_header(text)
        return self.take_prose(text)

    def take_prose(self, text):
        if len(self.document.blocks) == MOST_BLOCKS:
            return TOO_MANY
        self.document.add_prose(Prose(text))
        return NO_FAULT

    def take_header(self, text):
        try:
            part = read_header(text)
        except NotSuchText:
            return NO_HEADER
        if len(self.document.blocks) == MOST_BLOCKS or len(self.document.parts) == MOST_PARTS:
            return TOO_MANY
        if not part.is_file and self.has_other_parameters(part):
            return OTHER_PARAMETERS
        self.part = part
        return NO_FAULT

    def has_other_parameters(self, part):
        # All earlier parts of a name have the same parameters, so the first one speaks for them.
        first = self.document.first_part(part.name)
        return first > 0 and self.document.parts[first - 1].parameters != part.parameters

    def take_within(self, text):
        if text == coded(PART_END):
            return self.take_end()
        try:
            line = read_line(text)
        except NotSuchText:
            return NO_LINE
        if not self.pairs(line.kind):
            return NOT_PAIRED
        if not all([parameter in self.part.parameters for parameter in line.parameters]):
            return NOT_TOLD
        if self.line_count == MOST_LINES:
            return TOO_MANY
        self.line_count += 1
        self.part.lines.append(line)
        return NO_FAULT

    def take_end(self):
        if len(self.conditions) > 0:
            return NOT_PAIRED
        self.document.add_part(self.part)
        self.part = None
        return NO_FAULT

    # Goes on with the conditions; tells whether a line of this kind may stand here.
    def pairs(self, kind):
        count = len(self.conditions)
        if kind == IF:
            self.conditions.append(False)
            return count < MOST_CONDITIONS
        if kind == ELSE:
            if count == 0 or self.conditions[-1]:
                return False
            self.conditions[-1] = True
        if kind == END_OF_IF:
            if count == 0:
                return False
            self.conditions.pop()
        return True


# The document with this text, or the text's Fault.
def read_document(text):
    reader = Reader()
    lines = split_at(text, LINE_END)
    rest = lines.pop()
    for number, line in enumerate(lines, start=1):
        reason = reader.take(line)
        if reason != NO_FAULT:
            return Fault(number, reason)
    if len(rest) > 0:
        return Fault(len(lines) + 1, NOT_PLAIN)
    if reader.part is not None:
        return Fault(len(lines) + 1, NO_END)
    return reader.document
