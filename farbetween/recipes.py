"""Recipes: how a machine is joined of parts, as a tuple and as a text."""

from farbetween.errors import NoText, NotThere
from farbetween.fades import check_fade
from farbetween.figures import number_in
from farbetween.joinings import ahead, are_pairs, are_signs, beside, is_weight, only, rename, stop, toss
from farbetween.kinds import is_name
from farbetween.shares import Share, less, plus, times
from farbetween.spelling import pairs_in, pairs_written, signs_in, signs_written

MOST_WORDS = 30
MOST_FIGURES = 4

# What stands behind the first word of a recipe.
FORMS = {
    "stop": (),
    "part": ("name",),
    "ahead": ("sign", "recipe"),
    "toss": ("sign", "weights", "recipe", "recipe"),
    "beside": ("signs", "recipe", "recipe"),
    "only": ("signs", "recipe"),
    "rename": ("pairs", "recipe"),
}


def is_part_name(thing):
    """Whether this, which may be anything, is a name that a part can have."""
    return is_name(thing) and thing not in FORMS


class RecipeReader:
    """The words of a text, which are read one by one as a recipe."""

    def __init__(self, text):
        self.words = text.split(" ")
        self.place = 0

    def next_word(self):
        """The next word, refused by its number where it may not be, or by how many there are where it is wanted."""
        if self.place == MOST_WORDS or self.place == len(self.words):
            raise NoText(self.place)
        self.place += 1
        return self.words[self.place - 1]

    def let_by(self, thing, fits):
        """What the last word stands for, refused by this word's number where it is not such as it should be."""
        if not fits:
            raise NoText(self.place - 1)
        return thing

    def end(self):
        """Refuse the word that stands behind the end."""
        if self.place < len(self.words):
            raise NoText(self.place)

    def recipe(self):
        word = self.next_word()
        if word in FORMS and word != "part":
            return tuple([word] + [self.thing(kind) for kind in FORMS[word]])
        return "part", self.let_by(word, is_part_name(word))

    def thing(self, kind):
        """What is read next, of this kind."""
        if kind == "recipe":
            return self.recipe()
        if kind == "weights":
            return self.weight(), self.weight()
        word = self.next_word()
        if kind == "sign":
            return self.let_by(word, is_name(word))
        if kind == "signs":
            signs = signs_in(word)
            return self.let_by(signs, signs is not None and are_signs(list(signs)))
        pairs = pairs_in(word)
        return self.let_by(pairs, pairs is not None and are_pairs(list(pairs)))

    def weight(self):
        number = number_in(self.next_word(), MOST_FIGURES)
        return self.let_by(number, is_weight(number))


def read_recipe(text):
    """The recipe of this text."""
    if not isinstance(text, str):
        raise NoText(None)
    reader = RecipeReader(text)
    recipe = reader.recipe()
    reader.end()
    return recipe


def show_recipe(recipe):
    """The text of this recipe."""
    return " ".join(words_of(recipe))


def words_of(recipe):
    word = recipe[0]
    words = [] if word == "part" else [word]
    for thing, kind in zip(recipe[1:], FORMS[word]):
        words += words_of_thing(thing, kind)
    return words


def words_of_thing(thing, kind):
    if kind == "recipe":
        return words_of(thing)
    if kind == "weights":
        return [str(weight) for weight in thing]
    if kind == "signs":
        return [signs_written(thing)]
    if kind == "pairs":
        return [pairs_written(thing)]
    return [thing]


def recipes_within(recipe):
    """The recipes that stand right within this one, from the left."""
    return [thing for thing, kind in zip(recipe[1:], FORMS[recipe[0]]) if kind == "recipe"]


def names_of(recipe):
    """The names of all parts, from the left, each as often as it stands there."""
    if recipe[0] == "part":
        return [recipe[1]]
    return [name for within in recipes_within(recipe) for name in names_of(within)]


def parts_of(recipe):
    """The names of all parts, each once, sorted."""
    return sorted({name for name in names_of(recipe)})


def check_parts(recipe, there):
    for name in names_of(recipe):
        if name not in there:
            raise NotThere(name)


def made(recipe, parts):
    """The machine of this recipe, of a dict from the names of its parts to machines."""
    check_parts(recipe, parts)
    return joined(recipe, parts)


def joined(recipe, parts):
    """The machine of a recipe all of whose parts are there, made from within to without."""
    word = recipe[0]
    if word == "stop":
        return stop()
    if word == "part":
        return parts[recipe[1]]
    machines = [joined(within, parts) for within in recipes_within(recipe)]
    if word == "ahead":
        return ahead(recipe[1], machines[0])
    if word == "toss":
        return toss(recipe[1], recipe[2], machines[0], machines[1])
    if word == "beside":
        return beside(list(recipe[1]), machines[0], machines[1])
    if word == "only":
        return only(list(recipe[1]), machines[0])
    return rename(list(recipe[1]), machines[0])


def bound(recipe, fade, drifts):
    """How far the machine of this recipe comes at most when each part comes as far as its share."""
    check_fade(fade)
    check_parts(recipe, drifts)
    return bound_of(recipe, fade, drifts)


def bound_of(recipe, fade, drifts):
    """The bound of a recipe all of whose parts are there."""
    word = recipe[0]
    if word == "stop":
        return Share(0)
    if word == "part":
        return at_most_one(drifts[recipe[1]])
    bounds = [bound_of(within, fade, drifts) for within in recipes_within(recipe)]
    if word == "ahead":
        return times(fade, bounds[0])
    if word == "toss":
        left, right = recipe[2]
        near = times(Share(left, left + right), bounds[0])
        far = times(Share(right, left + right), bounds[1])
        return times(fade, plus(near, far))
    if word == "beside":
        return at_most_one(plus(bounds[0], bounds[1]))
    return bounds[0]


def at_most_one(share):
    return Share(1) if less(Share(1), share) else share
