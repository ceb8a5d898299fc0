"""Mixes of letters lost, put in and made wrong, and the mixes that a book bears."""

from lostplaces.below import MOST_WORDS
from lostplaces.errors import BadMix, TooMany, UnlikeWords
from lostplaces.judged import couples_of
from lostplaces.words import (
    MOST_LETTERS, all_words, check_letters, check_number, check_word, is_whole, is_word, power_of,
)

MOST_CHANGES = 8


class MixClash:
    """Two members and a word that comes of each of them by a mix."""

    def __init__(self, one, other, word):
        self.one = one
        self.other = other
        self.word = word

    def __eq__(self, other):
        return (
            isinstance(other, MixClash) and self.one == other.one and self.other == other.other
            and self.word == other.word
        )


def check_mix(length, mix):
    """Return the mix as a tuple, or raise BadMix with the word that tells what is wrong."""
    check_number(length, 0, MOST_LETTERS)
    if not isinstance(mix, (list, tuple)) or len(mix) != 3:
        raise BadMix("mix")
    lost, put, wrong = mix
    if not is_whole(lost, 0, length):
        raise BadMix("lost")
    if not is_whole(put, 0, MOST_CHANGES):
        raise BadMix("put")
    if not is_whole(wrong, 0, MOST_CHANGES):
        raise BadMix("wrong")
    return (lost, put, wrong)


def mixed_words(letters, word, mix):
    """Return all words that come of the word by the mix, ascending."""
    check_letters(letters)
    word = check_word(letters, word)
    mix = check_mix(len(word), mix)
    length = len(word) - mix[0] + mix[1]
    count = power_of(letters, max(len(word), length))
    if count > MOST_WORDS:
        raise TooMany(count)
    return tuple([other for other in all_words(letters, length) if _comes(word, mix, other)])


def comes_by_mix(word, mix, other):
    """Tell whether the other word comes of the word by the mix."""
    word = check_word(4, word)
    mix = check_mix(len(word), mix)
    return _comes(word, mix, check_word(4, other))


def _comes(word, mix, other):
    """The answer of comes_by_mix, for an other word of any length and without checks."""
    lost, put, wrong = mix
    if len(other) != len(word) - lost + put:
        return False
    table = _pairing_table(word, other)
    return _fewest_wrong(table[-1][-1], len(word), len(word) - lost) <= wrong


def _pairing_table(one, other):
    """Item [i][j] tells how the first i letters of one pair with the first j of the other."""
    # Letters are paired in order; each pair of unlike letters is a wrong one.
    # An item is a number whose bit p * (len(one) + 1) + w is 1 if just p pairs
    # with w wrong ones can be made, so one step treats all p and w together.
    right = len(one) + 1
    table = [[1] * (len(other) + 1)]
    for i, letter in enumerate(one):
        row = [1]
        for j, sign in enumerate(other):
            step = right if letter == sign else right + 1
            row.append(table[i][j + 1] | row[j] | (table[i][j] << step))
        table.append(row)
    return table


def _fewest_wrong(item, length, pairs):
    """The fewest wrong ones among so many pairs, from an item of the table of one's length."""
    # The lowest bit left over is the one that counts, and x & -x keeps it alone.
    wrongs = item >> (pairs * (length + 1))
    return (wrongs & -wrongs).bit_length() - 1


def least_mix(one, other):
    """Return, for 0, 1, .. letters lost and put in, the fewest that must be made wrong."""
    one = check_word(4, one)
    other = check_word(4, other)
    if len(one) != len(other):
        raise UnlikeWords()
    return _least(one, other)


def _least(one, other):
    """The row of least_mix, without checks."""
    item = _pairing_table(one, other)[-1][-1]
    length = len(one)
    return tuple([_fewest_wrong(item, length, length - lost) for lost in range(length + 1)])


def book_mix(book):
    """Return at each place the least number of all couples, or None without a couple."""
    couples = couples_of(book)
    if not couples:
        return None
    rows = [_least(one, other) for one, other in couples]
    return tuple([min(column) for column in zip(*rows)])


def bears_mixes(book, first, second):
    """Tell whether no word comes of one member by the first, of another by the second mix."""
    first = check_mix(book.length, first)
    second = check_mix(book.length, second)
    least = book_mix(book)
    if least is None or not _lengths_meet(first, second):
        return True
    return least[_unpaired(book.length, first, second)] > first[2] + second[2]


def _lengths_meet(first, second):
    """Whether both mixes make words of one length."""
    return first[1] - first[0] == second[1] - second[0]


def _unpaired(length, first, second):
    """The place of the least mix that tells whether two words come to one by the mixes."""
    return min(first[0] + second[1], length)


def bears_mix(book, mix):
    """Tell whether no word comes of two members by the mix."""
    return bears_mixes(book, mix, mix)


def mix_clash(book, first, second=None):
    """Return a MixClash that shows that the book does not bear the mixes, or None."""
    first = check_mix(book.length, first)
    second = first if second is None else check_mix(book.length, second)
    if not _lengths_meet(first, second):
        return None
    place = _unpaired(book.length, first, second)
    for one, other in couples_of(book):
        if _least(one, other)[place] <= first[2] + second[2]:
            return MixClash(one, other, _clash_word(one, other, first, second))
    return None


def _clash_word(one, other, first, second):
    """A word that comes of one by the first and of the other by the second mix."""
    # Of the letters without a partner each word loses as many as its mix tells;
    # all its others are put in from the other word's side.
    length = len(one)
    unpaired = _unpaired(length, first, second)
    pairs = _pairs_of(one, other, length - unpaired)
    gone = _without(length, [i for i, _ in pairs])[:first[0]]
    gone_other = _without(length, [j for _, j in pairs])[:second[0]]
    wrong_left = first[2]
    word = []
    i, j = 0, 0
    for at, to in pairs:
        word.extend([one[k] for k in range(i, at) if k not in gone])
        word.extend([other[k] for k in range(j, to) if k not in gone_other])
        if one[at] != other[to] and wrong_left > 0:
            wrong_left -= 1
            word.append(other[to])
        else:
            word.append(one[at])
        i, j = at + 1, to + 1
    word.extend([one[k] for k in range(i, length) if k not in gone])
    word.extend([other[k] for k in range(j, length) if k not in gone_other])
    # What is put in on both sides may be any letters.
    return tuple(word) + (0,) * (first[0] + second[1] - unpaired)


def _without(length, indexes):
    """The indexes below the length that are not among these, ascending."""
    return [index for index in range(length) if index not in indexes]


def _pairs_of(one, other, pairs):
    """The couples of indexes of so many pairs with the fewest wrong ones, ascending."""
    right = len(one) + 1
    table = _pairing_table(one, other)
    i, j = len(one), len(other)
    place = pairs * right + _fewest_wrong(table[i][j], len(one), pairs)
    found = []
    # While a pair is left to be found, there are letters left in both words.
    while place > 0:
        if (table[i - 1][j] >> place) & 1:
            i = i - 1
        elif (table[i][j - 1] >> place) & 1:
            j = j - 1
        else:
            i, j = i - 1, j - 1
            place = place - (right if one[i] == other[j] else right + 1)
            found.append((i, j))
    return found[::-1]


def mix_fault(book, first, second, clash):
    """Judge a MixClash: None, "one", "other" or "word"."""
    first = check_mix(book.length, first)
    second = check_mix(book.length, second)
    if clash.one not in book.words:
        return "one"
    if clash.other not in book.words or clash.other == clash.one:
        return "other"
    # check_mix lets no mix make words of more than 32 letters.
    if not is_word(book.letters, book.length - first[0] + first[1], clash.word):
        return "word"
    if not _comes(clash.one, first, clash.word) or not _comes(clash.other, second, clash.word):
        return "word"
    return None
