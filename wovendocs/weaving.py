"""The calls on one document, and what they answer."""

from wovendocs.document import Document, Part
from wovendocs.reading import Fault, read_document
from wovendocs.woven import block_lines, ended, index_lines

READ = 0
WEAVE = 1
BLOCK = 2
NUMBER = 3
PART = 4
CHUNK = 5
SIZE = 11

NO_SUCH_NUMBER = -2
NO_SUCH_NAME = -3
TOO_LONG_TO_READ = -6
TOO_LONG_TO_ANSWER = -7

MOST_READ_BYTES = 20000
MOST_ANSWERED_BYTES = 24000


# A call's number is none of those that can be answered.
class UnknownCall(ValueError):
    pass


# The document that is held, and what it is woven into.
class Held:
    def __init__(self):
        self.hold(Document())

    def hold(self, document):
        self.document = document
        self.block_lines = [block_lines(document, block) for block in document.blocks]
        self.index_lines = index_lines(document)
        self.text = []
        for lines in self.block_lines:
            self.text.extend(ended(lines))
        self.text.extend(ended(self.index_lines))

    def has_block(self, i):
        return 0 <= i < len(self.document.blocks)


# What the calls answer, one after the other, on a new object.
def answers(calls):
    held = Held()
    given = []
    at = 0
    while at < len(calls):
        number = calls[at]
        at += 1
        if number in (READ, CHUNK):
            end = at + 1 + calls[at]
            answer = answer_row_call(held, number, calls[at + 1:end])
            at = end
        elif number in (BLOCK, NUMBER, PART):
            answer = answer_number_call(held, number, calls[at])
            at += 1
        else:
            answer = answer_bare_call(held, number)
        given.append(len(answer))
        given.extend(answer)
    return given


def answer_row_call(held, number, row):
    if number == READ:
        return answer_read(held, row)
    return answer_chunk(held, tuple(row))


def answer_number_call(held, number, k):
    if number == BLOCK:
        return answer_block(held, k)
    if number == NUMBER:
        return answer_number(held, k)
    return answer_part(held, k)


def answer_bare_call(held, number):
    if number == WEAVE:
        return short(held.text)
    if number == SIZE:
        return answer_size(held)
    raise UnknownCall(f"call {number} can not be answered")


def counted(row):
    return [len(row)] + row


def short(text):
    if len(text) > MOST_ANSWERED_BYTES:
        return [TOO_LONG_TO_ANSWER]
    return counted(text)


def answer_read(held, text):
    if len(text) > MOST_READ_BYTES:
        return [TOO_LONG_TO_READ]
    found = read_document(text)
    if isinstance(found, Fault):
        return [found.line, found.reason]
    held.hold(found)
    return [0, len(found.blocks)]


def answer_block(held, i):
    if not held.has_block(i):
        return [NO_SUCH_NUMBER]
    return short(ended(held.block_lines[i]))


def answer_number(held, i):
    if not held.has_block(i):
        return [NO_SUCH_NUMBER]
    block = held.document.blocks[i]
    return [block.number if isinstance(block, Part) else 0]


def answer_part(held, k):
    document = held.document
    if k < 1 or k > len(document.parts):
        return [NO_SUCH_NUMBER]
    part = document.parts[k - 1]
    neighbours = [document.part_before(part), document.part_behind(part)]
    return [part.block] + neighbours + counted(document.used_parts(part))


def answer_chunk(held, name):
    document = held.document
    if name not in document.standing:
        return [NO_SUCH_NAME]
    answer = []
    for rows in (document.chunk_parts, document.users, document.tellers):
        answer.extend(counted(rows.get(name, [])))
    return answer


def answer_size(held):
    line_count = sum([len(lines) for lines in held.block_lines])
    counts = [len(held.document.blocks), len(held.document.parts), line_count]
    return counts + [len(held.index_lines), len(held.text)]
