"""Frames out of letters, faces and words."""

from leftproducts.errors import BadTable, TooMany
from leftproducts.frames import Frame
from leftproducts.judging import are_heights, is_list, is_number, is_word, need_number, need_prime
from leftproducts.sums import add_to, product_sum, sign


def _shorter_first(names):
    return sorted(names, key=lambda name: (len(name), name))


def _numbered(names):
    return {name: place for place, name in enumerate(names)}


def _led_on(names, heights, product, firsts):
    # The rule tells the step of each name of two and more letters by those of its
    # first letter and of its rest, which is shorter and so stands ahead.
    at = _numbered(names)
    steps = {}
    for name in names:
        if len(name) == 1:
            steps[at[name]] = {at[other]: number for other, number in firsts[name[0]].items()}
        if len(name) > 1:
            first, rest = at[name[:1]], at[name[1:]]
            total = product_sum(product, steps[first], {rest: 1})
            add_to(total, product_sum(product, {first: 1}, steps[rest]), sign(heights[first]))
            steps[at[name]] = total
    return steps


def _lots(letters):
    lots = [()]
    for letter in range(letters):
        lots = lots + [lot + (letter,) for lot in lots]
    return _shorter_first(lots)


def _lot_products(lots):
    at = _numbered(lots)
    product = {}
    for one in lots:
        for other in lots:
            both = tuple(sorted(one + other))
            if both in at:
                turns = len([1 for a in one for b in other if a > b])
                product[at[one], at[other]] = {at[both]: sign(turns)}
    return product


def _is_sum_of_pairs(thing, letters):
    if not isinstance(thing, dict):
        return False
    return all([is_word(pair, letters, 2, 2) and pair[0] < pair[1] and is_number(thing[pair]) for pair in thing])


def turning_frame(prime, letters, steps):
    """The frame of the lots of letters that turn when they pass one another."""
    need_prime(prime)
    need_number(letters, 0, 5, "letters")
    if not is_list(steps) or len(steps) != letters:
        raise BadTable("a dict for each letter is wanted")
    if not all([_is_sum_of_pairs(told, letters) for told in steps]):
        raise BadTable("dicts from pairs of letters to numbers are wanted")
    lots = _lots(letters)
    heights = [len(lot) for lot in lots]
    product = _lot_products(lots)
    return Frame(prime, heights, product, _led_on(lots, heights, product, steps))


def _is_face(thing):
    return is_word(thing, 6, 1, 6) and all([thing[k] < thing[k + 1] for k in range(len(thing) - 1)])


def _are_faces(thing):
    if not is_list(thing) or len(thing) > 32 or not all([_is_face(face) for face in thing]):
        return False
    lot = {face: True for face in thing}
    # It is enough to leave out one number: what is left of that is looked at in its turn.
    parts = [face[:k] + face[k + 1:] for face in thing for k in range(len(face)) if len(face) > 1]
    return len(lot) == len(thing) and all([part in lot for part in parts])


def _face_products(faces):
    at = _numbered(faces)
    product = {}
    for one in faces:
        for other in faces:
            if one[-1] == other[0] and one + other[1:] in at:
                product[at[one], at[other]] = {at[one + other[1:]]: 1}
    return product


def _face_steps(faces):
    at = _numbered(faces)
    steps = {place: {} for place in range(len(faces))}
    for face in faces:
        for k in range(len(face)):
            part = face[:k] + face[k + 1:]
            if part in at:
                steps[at[part]][at[face]] = sign(k)
    return steps


def faces_frame(prime, faces):
    """The frame of faces: products put faces together at a number, steps add a number."""
    need_prime(prime)
    if not _are_faces(faces):
        raise BadTable("a list of faces with all their parts is wanted")
    names = _shorter_first(faces)
    heights = [len(face) - 1 for face in names]
    return Frame(prime, heights, _face_products(names), _face_steps(names))


def _is_sum_of_words(thing, heights, height, most):
    if not isinstance(thing, dict):
        return False
    for word in thing:
        if not is_word(word, len(heights), 1, most) or not is_number(thing[word]):
            return False
        if sum([heights[letter] for letter in word]) != height:
            return False
    return True


def _words(letters, most):
    last = [()]
    names = [()]
    for _ in range(most):
        last = [word + (letter,) for word in last for letter in range(letters)]
        names = names + last
    return _shorter_first(names)


def _word_products(words):
    at = _numbered(words)
    product = {}
    for one in words:
        for other in words:
            if one + other in at:
                product[at[one], at[other]] = {at[one + other]: 1}
    return product


def words_frame(prime, heights, steps, most):
    """The frame of the words of at most most letters: products put them behind one another."""
    need_prime(prime)
    if not are_heights(heights, 0, 3) or len(heights) > 3:
        raise BadTable("a list of at most three heights from 0 to 3 is wanted")
    need_number(most, 0, 4, "most")
    if not is_list(steps) or len(steps) != len(heights):
        raise BadTable("a dict for each letter is wanted")
    if not all([_is_sum_of_words(told, heights, heights[k] + 1, most) for k, told in enumerate(steps)]):
        raise BadTable("dicts from words to numbers are wanted")
    words = _words(len(heights), most)
    if len(words) > 32:
        raise TooMany(32)
    levels = [sum([heights[letter] for letter in word]) for word in words]
    product = _word_products(words)
    return Frame(prime, levels, product, _led_on(words, levels, product, steps))
