"""Tables of words as nets of gates, also those that cannot be undone."""

from backstair.errors import BadTable, NotClean
from backstair.kinds import are_numbers, is_number
from backstair.nets import Net, inverse_net

MOST_BITS = 6


def bits_of_number(number, many):
    """Return a number as a word of so many bits, the first of which counts most."""
    return tuple([(number >> at) & 1 for at in reversed(range(many))])


def words_in(many):
    """Return all words of so many bits in ascending order."""
    return [bits_of_number(number, many) for number in range(1 << many)]


def is_word(value):
    """Return whether a value is a tuple of 1 to 6 bits."""
    return are_numbers(value, 0, 1) and 1 <= len(value) <= MOST_BITS


def check_table(table):
    """Return the numbers of bits in and out of a table; raise BadTable if the value is none."""
    if not isinstance(table, list):
        raise BadTable("a table is a list")
    for many in range(1, MOST_BITS + 1):
        if len(table) == 1 << many:
            break
    else:
        raise BadTable("the number of words is not 2, 4, 8, 16, 32 or 64")
    for word in table:
        if not is_word(word) or len(word) != len(table[0]):
            raise BadTable("a word is not a tuple of bits like the others")
    return (many, len(table[0]))


def table_net(table):
    """Return the net that combines the word of a table with the lines behind those of the word in."""
    many_in, many_out = check_table(table)
    lines_in = tuple(range(many_in))
    gates = []
    for word, out in zip(words_in(many_in), table):
        zeros = [("turn", (), line) for line in lines_in if word[line] == 0]
        for at in range(many_out):
            if out[at] == 1:
                gates += zeros + [("turn", lines_in, many_in + at)] + zeros
    return Net(many_in + many_out, gates)


def table_of(net, k, m):
    """Return the table with k bits in and m bits out of a net that leaves all its other lines as they were."""
    if not is_number(k, 1, MOST_BITS) or not is_number(m, 1, MOST_BITS):
        raise BadTable("a table has from 1 to 6 bits in and out")
    if net.lines < k + m:
        raise BadTable("the net has too few lines")
    zeros = (0,) * (net.lines - k)
    table = []
    for word in words_in(k):
        end = net.run(word + zeros)
        if end[:k] != word:
            raise NotClean("a line in is changed")
        if 1 in end[k + m:]:
            raise NotClean("a 1 is left on a line that was lent")
        table.append(end[k:k + m])
    return table


def undoing(table, many):
    """Return the table that undoes one with so many bits in and out, in which no word occurs twice."""
    words = {out: word for word, out in zip(words_in(many), table)}
    if len(words) < len(table):
        raise BadTable("a word occurs twice")
    return [words[word] for word in words_in(many)]


def turned_net(table):
    """Return the net that leads from each word and zeros to the table's word and zeros."""
    many, many_out = check_table(table)
    if many != many_out:
        raise BadTable("the numbers of bits in and out differ")
    back = inverse_net(table_net(undoing(table, many)))
    swaps = [("swap", (), line, many + line) for line in range(many)]
    return Net(2 * many, table_net(table).gates() + swaps + back.gates())
