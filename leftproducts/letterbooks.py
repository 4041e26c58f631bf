"""Books of letters and rules: which sums of texts are nothing by the rules, and what is the rest of a sum."""

from leftproducts.errors import BadRow, BadRules
from leftproducts.judging import is_list, is_number, is_word, need_number, need_prime
from leftproducts.solving import put_to_basis
from leftproducts.sums import add_to, tidied


def _is_sum(thing, letters, least, most):
    if not isinstance(thing, dict):
        return False
    return all([is_word(text, letters, least, most) and is_number(thing[text]) for text in thing])


def _are_rules(thing, letters, most):
    if not is_list(thing) or not all([_is_sum(rule, letters, 2, most) for rule in thing]):
        return False
    return all([len(sorted({len(text) for text in rule})) <= 1 for rule in thing])


def _turned_about(row):
    # With the letters below 0 the greatest text comes first: a basis then has the heads as its first places.
    return {tuple([-letter for letter in text]): number for text, number in row.items()}


def _longer_basis(prime, letters, shorter, rules):
    # The sums that are nothing of one length, by those of one letter less and the rules of this length.
    # What stands behind a letter of its own is tidy as it is.
    basis = {(-letter,) + first: {(-letter,) + text: number for text, number in row.items()}
             for letter in range(letters) for first, row in shorter.items()}
    rows = [{text + (-letter,): number for text, number in row.items()}
            for letter in range(letters) for row in shorter.values()]
    for row in rows + [_turned_about(rule) for rule in rules]:
        put_to_basis(basis, row, prime)
    return basis


def _heads(prime, letters, most, rules):
    # For each head the sum of texts that are no heads from which it differs by what is nothing.
    heads = {}
    basis = {}
    for length in range(2, most + 1):
        basis = _longer_basis(prime, letters, basis, [rule for rule in rules if len(min(rule)) == length])
        for first, row in basis.items():
            less = {text: -number for text, number in row.items() if text != first}
            heads[tuple([-letter for letter in first])] = tidied(_turned_about(less), prime)
    return heads


class LetterBook:
    """Letters and rules: sums of texts of one length each that are nothing."""

    def __init__(self, prime, letters, most, rules):
        need_prime(prime)
        need_number(letters, 0, 3, "letters")
        need_number(most, 1, 6, "most")
        if not _are_rules(rules, letters, most):
            raise BadRules("a list of sums of texts of one length from 2 to most is wanted")
        tidy = [tidied(rule, prime) for rule in rules]
        self.prime = prime
        self.letters = letters
        self.most = most
        self.rules = tuple([rule for rule in tidy if rule])
        self.heads = _heads(prime, letters, most, self.rules)

    def __eq__(self, other):
        return (isinstance(other, LetterBook) and self.prime == other.prime and self.letters == other.letters
                and self.most == other.most and self.heads == other.heads)


def need_book(book):
    """Raises BadRules unless book is a LetterBook."""
    if not isinstance(book, LetterBook):
        raise BadRules("a book of letters is wanted")


def is_rest_text(book, thing):
    """Whether any value is a text of the book, not empty, that is no head."""
    return is_word(thing, book.letters, 1, book.most) and thing not in book.heads


def texts_left(book, length):
    """The texts of just so many letters that are no heads, ascending."""
    found = [()]
    for _ in range(length):
        # What has a head in it is a head.
        found = [text + (letter,) for text in found for letter in range(book.letters)
                 if text + (letter,) not in book.heads]
    return found


def rest_texts(book, length):
    """The texts of just so many letters that are no heads, ascending."""
    need_book(book)
    need_number(length, 0, book.most, "length")
    return texts_left(book, length)


def rest_of(book, texts):
    """The sum of rest texts that differs from the sum of texts by what is nothing."""
    total = {}
    for text, number in texts.items():
        add_to(total, book.heads.get(text, {text: 1}), number)
    return tidied(total, book.prime)


def rest(book, texts):
    """The sum of rest texts that differs from the sum of texts by what is nothing."""
    need_book(book)
    if not _is_sum(texts, book.letters, 0, book.most):
        raise BadRow("a sum of texts of the book is wanted")
    return rest_of(book, texts)
