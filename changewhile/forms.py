"""Whether terms are alike: each is brought to a form, and terms of one form have one worth."""

from changewhile.terms import folded
from changewhile.values import LONGEST_TUPLE, NUMBERS, alike_values

# Sums that would come to more products than these stay as they are, multiplied by one another.
MOST_PRODUCTS = 1000
# And so do sums of which more pairs than these would be multiplied.
MOST_PAIRS = 100000


class Form:
    """A form: forms are the same if their texts are; the value is that of a written one, or None."""

    def __init__(self, word, parts, value, text):
        self.word = word
        self.parts = parts
        self.value = value
        self.text = text


def alike(one, other):
    """Whether two terms are alike."""
    return one == other or form_of(one).text == form_of(other).text


def form_of(term):
    """The form of a term."""
    return folded(term, _form_over)


def _form_over(term, forms):
    """The form of a term, the terms right within it having such forms."""
    word = term[0]
    if word == "number":
        return _number(term[1])
    if word == "truth":
        return _truth(term[1])
    if word == "name":
        return Form("name", (), None, term[1])
    if word == "box":
        return Form("box", (), None, "#" + term[1])
    if word == "empty":
        return _list([])
    if word == "field":
        return _bare("field " + term[2], forms)
    if word in ("add", "less", "times"):
        return _reckoned(word, forms[0], forms[1])
    return _decided(word, forms)


def _decided(word, forms):
    """The form of a term that is no leaf, field or sum."""
    if word == "list":
        return _list(forms)
    if word == "not":
        return _not(forms[0])
    if word == "both":
        return _both(forms[0], forms[1])
    if word == "under":
        return _under(forms[0], forms[1])
    if word == "same":
        return _same(forms[0], forms[1])
    if word == "many":
        return _number(len(forms[0].parts)) if forms[0].word == "list" else _bare(word, forms)
    if word == "join":
        return _join(forms[0], forms[1])
    if word == "pick":
        return _pick(forms[0], forms[1], forms[2])
    return _at(forms[0], forms[1], forms[2])


def _number(number):
    return Form("number", (), number, str(number))


def _truth(truth):
    return Form("truth", (), truth, "yes" if truth else "no")


def _list(forms):
    values = [form.value for form in forms]
    return Form("list", tuple(forms), None if None in values else tuple(values), "[" + _texts(forms) + "]")


def _bare(word, forms):
    """The form of a term of which nothing is decided."""
    return Form(word, tuple(forms), None, word + "(" + _texts(forms) + ")")


def _texts(forms):
    return ",".join([form.text for form in forms])


def _in_order(one, other):
    """Two forms, in the same order whichever comes first."""
    return [one, other] if one.text <= other.text else [other, one]


def _not(form):
    if form.word == "truth":
        return _truth(not form.value)
    return form.parts[0] if form.word == "not" else _bare("not", [form])


def _both(one, other):
    for first, second in ((one, other), (other, one)):
        if first.word == "truth":
            return second if first.value else first
    return _bare("both", _in_order(one, other))


def _under(one, other):
    if one.word == "number" and other.word == "number":
        return _truth(one.value < other.value)
    # No number is under the least one, and the greatest is under none.
    if other.text == "0" or one.text == str(NUMBERS - 1):
        return _truth(False)
    return _bare("under", [one, other])


def _same(one, other):
    if one.text == other.text:
        return _truth(True)
    if one.value is not None and other.value is not None:
        return _truth(alike_values(one.value, other.value))
    return _bare("same", _in_order(one, other))


def _pick(truth, one, other):
    if truth.word == "truth":
        return one if truth.value else other
    return one if one.text == other.text else _bare("pick", [truth, one, other])


def _at(values, number, other):
    """The form of an at: where its list begins with a written one, that may have what is asked for."""
    known = values.parts[0] if values.word == "join" else values
    if number.word == "number":
        if known.word == "list" and number.value < len(known.parts):
            return known.parts[number.value]
        if values.word == "list" or number.value >= LONGEST_TUPLE:
            return other
    return other if values.text == "[]" else _bare("at", [values, number, other])


def _join(one, other):
    """The form of a join: its pieces one behind another, written lists side by side made one."""
    pieces = []
    for form in (one, other):
        for piece in form.parts if form.word == "join" else (form,):
            if pieces and pieces[-1].word == "list" and piece.word == "list":
                pieces[-1] = _list((pieces[-1].parts + piece.parts)[:LONGEST_TUPLE])
            else:
                pieces.append(piece)
    pieces = [piece for piece in pieces if piece.text != "[]"]
    if not pieces:
        return _list([])
    if len(pieces) == 1 or len(pieces[0].parts) >= LONGEST_TUPLE and pieces[0].word == "list":
        return pieces[0]
    return _bare("join", pieces)


def _reckoned(word, one, other):
    """The form of a sum, a difference or a product."""
    if word == "times":
        products = _multiplied(_products_of(one), _products_of(other))
        return _bare("times", _in_order(one, other)) if products is None else _sum(products)
    sign = 1 if word == "add" else -1
    products = _products_of(one)
    for key, (letters, many) in _products_of(other).items():
        _add_product(products, key, letters, sign * many)
    return _sum(products)


def _products_of(form):
    """A dict of a form's products, by their letters' texts: pairs of the letters and how many times it is there."""
    if form.word == "number":
        return {(): ((), form.value)}
    if form.word == "sum":
        return {tuple([letter.text for letter in letters]): (letters, many) for letters, many in form.parts}
    return {(form.text,): ((form,), 1)}


def _add_product(products, key, letters, many):
    ahead = products[key][1] if key in products else 0
    products[key] = (letters, (ahead + many) % NUMBERS)


def _multiplied(one, other):
    """The products of two sums multiplied by one another, or None where they are too many."""
    products = {}
    if len(one) * len(other) > MOST_PAIRS:
        return None
    for first, how_many in one.values():
        for second, times in other.values():
            letters = tuple(sorted(first + second, key=lambda letter: letter.text))
            _add_product(products, tuple([letter.text for letter in letters]), letters, how_many * times)
            if len(products) > MOST_PRODUCTS:
                return None
    return products


def _sum(products):
    """The form of products that are added up."""
    left = {key: products[key] for key in products if products[key][1] != 0}
    if not left:
        return _number(0)
    if len(left) == 1:
        for letters, many in left.values():
            if not letters:
                return _number(many)
            if len(letters) == 1 and many == 1:
                return letters[0]
    keys = sorted(left)
    text = "+".join([str(left[key][1]) + "*" + "*".join(key) for key in keys])
    return Form("sum", tuple([left[key] for key in keys]), None, "sum(" + text + ")")
