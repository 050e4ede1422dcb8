"""The woven lines of a document, each without the byte that ends it."""

from wovendocs.document import Part
from wovendocs.signs import BLANK, LINE_END, coded


# A document, and the lines and the text that it is woven into.
class Woven:
    def __init__(self, document):
        self.document = document
        self.block_lines = [block_lines(document, block) for block in document.blocks]
        self.index_lines = index_lines(document)
        self.text = []
        for lines in self.block_lines:
            self.text.extend(ended(lines))
        self.text.extend(ended(self.index_lines))


def written_number(number):
    return "?" if number == 0 else str(number)


def written_row(numbers):
    return ", ".join([written_number(number) for number in numbers])


def block_lines(document, block):
    if isinstance(block, Part):
        return part_lines(document, block)
    return [[BLANK] + block.text]


def part_lines(document, part):
    lines = [header_line(document, part)]
    for line in part.lines:
        lines.append(woven_line(document, line))
    if not part.is_file and part.name in document.users:
        lines.append(coded("-used in " + written_row(document.users[part.name])))
    numbers = document.used_parts(part)
    if len(numbers) > 0:
        lines.append(coded("-uses " + written_row(numbers)))
    return lines


def header_line(document, part):
    line = coded("#" + str(part.number) + " ") + part.header[1:]
    before = document.part_before(part)
    if before > 0:
        line = line + coded(f" < {before}")
    after = document.part_behind(part)
    if after > 0:
        line = line + coded(f" > {after}")
    return line


def woven_line(document, line):
    woven = coded(":")
    at = 0
    for use in line.uses:
        woven.extend(line.text[at:use.end])
        woven.extend(coded("[" + written_number(document.first_part(use.name)) + "]"))
        at = use.end
    return woven + line.text[at:]


def index_lines(document):
    lines = [name_line(document, name) for name in sorted(document.standing)]
    for path in sorted(document.file_parts):
        lines.append(row_line("=file ", path, written_row(document.file_parts[path])))
    for setting in sorted(document.askers):
        lines.append(row_line("=if ", setting, written_row(document.askers[setting])))
    return lines


def name_line(document, name):
    words = "nowhere"
    if name in document.chunk_parts:
        words = written_row(document.chunk_parts[name])
    if name in document.users:
        words = words + "; used in " + written_row(document.users[name])
    if name in document.tellers:
        words = words + "; told of in " + written_row(document.tellers[name])
    return row_line("=", name, words)


def row_line(start, name, words):
    return coded(start) + list(name) + coded(": " + words)


# The text of the lines, each ended.
def ended(lines):
    text = []
    for line in lines:
        text.extend(line)
        text.append(LINE_END)
    return text
