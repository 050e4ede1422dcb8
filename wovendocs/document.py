"""What a document is made of, and where its names, files and settings come in it."""

from wovendocs.signs import BAR, split_at

CODE = 0
IF = 1
ELSE = 2
END_OF_IF = 3


# A use in a code line: the name, and the place in the line's text just behind it.
class Use:
    def __init__(self, name, end):
        self.name = name
        self.end = end


# A line of a chunk part.
class Line:
    def __init__(self, kind, text):
        self.kind = kind
        self.text = text
        self.setting = ()
        self.uses = []
        self.parameters = []


# A line of prose; the document gives it its number.
class Prose:
    def __init__(self, text):
        self.text = text
        self.number = 0


# A chunk part; name is the path if it is a file's. The document gives it its numbers.
class Part:
    def __init__(self, header, is_file, name, parameters):
        self.header = header
        self.is_file = is_file
        self.name = name
        self.parameters = parameters
        self.lines = []
        self.number = 0
        self.block = 0


# Blocks in their order. Names, paths and settings are tuples of bytes, so that dicts can hold them.
class Document:
    def __init__(self):
        self.blocks = []
        self.parts = []
        self.standing = {}
        self.chunk_parts = {}
        self.file_parts = {}
        self.users = {}
        self.askers = {}
        self.tellers = {}

    def add_prose(self, prose):
        prose.number = len(self.blocks) - len(self.parts) + 1
        self.blocks.append(prose)
        for quote in quotes_of(prose.text):
            note_number(self.tellers, tuple(quote), prose.number)

    # Adds a part that has all its lines already.
    def add_part(self, part):
        part.block = len(self.blocks)
        part.number = len(self.parts) + 1
        self.blocks.append(part)
        self.parts.append(part)
        if part.is_file:
            note_number(self.file_parts, part.name, part.number)
        else:
            self.standing[part.name] = True
            note_number(self.chunk_parts, part.name, part.number)
        for line in part.lines:
            self.note_line(line, part.number)

    def note_line(self, line, number):
        if line.kind == IF:
            note_number(self.askers, line.setting, number)
        for use in line.uses:
            self.standing[use.name] = True
            note_number(self.users, use.name, number)

    # The number of the name's first part, 0 if it has none.
    def first_part(self, name):
        return self.chunk_parts.get(name, [0])[0]

    # The numbers of all parts of the part's chunk or file.
    def same_parts(self, part):
        if part.is_file:
            return self.file_parts[part.name]
        return self.chunk_parts[part.name]

    # The number of the nearest part before of the same chunk or file, 0 for none.
    def part_before(self, part):
        return max([number for number in self.same_parts(part) if number < part.number], default=0)

    # The number of the nearest part behind of the same chunk or file, 0 for none.
    def part_behind(self, part):
        return min([number for number in self.same_parts(part) if number > part.number], default=0)

    # The numbers of the first parts of the names that the part uses, each once, 0 for a name without one.
    def used_parts(self, part):
        numbers = []
        for line in part.lines:
            for use in line.uses:
                number = self.first_part(use.name)
                if number not in numbers:
                    numbers.append(number)
        return numbers


# Puts number into the key's row, once; numbers come rising, so the last one tells whether it is there.
def note_number(rows, key, number):
    row = rows.setdefault(key, [])
    if len(row) == 0 or row[-1] != number:
        row.append(number)


# What a line of prose quotes, in order.
def quotes_of(text):
    pieces = split_at(text, BAR)
    # The last piece never stands between two bars: either nothing is opened there, or its bar has no partner.
    return [pieces[k] for k in range(1, len(pieces) - 1, 2) if len(pieces[k]) > 0]
