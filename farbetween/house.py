"""The house: parts and wholes by names, parts that are swapped, and how far each may have come by that."""

from farbetween.apart import distance
from farbetween.errors import NoName, NotThere, Taken, TooFar, TooMany
from farbetween.fades import check_fade
from farbetween.kinds import is_name
from farbetween.recipes import at_most_one, bound, is_part_name, made, read_recipe, show_recipe
from farbetween.shares import Share, less, plus

MOST_NAMES = 20


class Deed:
    """A deed that stands: its word, the name it was done to, what machine that became by it, and how far away.

    before is a dict from the names to their machines as they were ahead of it.
    """

    def __init__(self, word, name, machine, far, before):
        self.word = word
        self.name = name
        self.machine = machine
        self.far = far
        self.before = before


class House:
    """Machines by names, in the order in which they were kept, and recipes for those of them that are wholes.

    deeds are those that stand; starts is a dict from the names to the number of the deed by which they were kept.
    """

    def __init__(self, fade):
        check_fade(fade)
        self.fade = fade
        self.deeds = []
        self.machines = {}
        self.recipes = {}
        self.starts = {}

    def __len__(self):
        return len(self.deeds)

    def put(self, name, machine):
        """Keep a part."""
        self.check_free(name)
        self.check_space()
        self.add_name("put", name, machine)

    def keep(self, name, text):
        """Keep a whole by the text of its recipe."""
        self.check_free(name)
        recipe = read_recipe(text)
        machine = made(recipe, self.machines)
        self.check_space()
        self.add_name("keep", name, machine)
        self.recipes[name] = recipe

    def swap(self, name, machine, within):
        """Put a machine in the place of a part that it is no farther away from than told."""
        if not is_name(name) or name not in self.machines or name in self.recipes:
            raise NotThere(name)
        far = distance(self.fade, self.machines[name], machine)
        if less(within, far):
            raise TooFar(far)
        machines = self.made_anew(name, machine)
        self.deeds.append(Deed("swap", name, machine, far, self.machines))
        self.machines = machines

    def back(self):
        """Take the last deed back, and tell its word."""
        if not self.deeds:
            return ""
        deed = self.deeds.pop()
        self.machines = deed.before
        if deed.name not in self.machines:
            del self.starts[deed.name]
        if deed.word == "keep":
            del self.recipes[deed.name]
        return deed.word

    def machine_of(self, name):
        """The machine that this name is now."""
        self.check_kept(name)
        return self.machines[name]

    def first(self, name):
        """The machine that this name was when it was kept."""
        self.check_kept(name)
        return self.deeds[self.starts[name]].machine

    def drift(self, name):
        """How far this name may have come since it was kept."""
        self.check_kept(name)
        return self.drifts_since(self.starts[name])[name]

    def text_of(self, name):
        """The text of the recipe of a whole."""
        if not is_name(name) or name not in self.recipes:
            raise NotThere(name)
        return show_recipe(self.recipes[name])

    def parts(self):
        """The names of all parts, sorted."""
        return sorted([name for name in self.machines if name not in self.recipes])

    def wholes(self):
        """The names of all wholes, sorted."""
        return sorted(list(self.recipes))

    def check_free(self, name):
        if not is_part_name(name):
            raise NoName(name)
        if name in self.machines:
            raise Taken(name)

    def check_space(self):
        if len(self.machines) == MOST_NAMES:
            raise TooMany(f"there are {MOST_NAMES} names already")

    def check_kept(self, name):
        if not is_name(name) or name not in self.machines:
            raise NotThere(name)

    def add_name(self, word, name, machine):
        """Keep a machine by a name that is free."""
        self.starts[name] = len(self.deeds)
        self.deeds.append(Deed(word, name, machine, Share(0), self.machines))
        self.machines = {**self.machines, name: machine}

    def made_anew(self, name, machine):
        """All machines by their names, this one in its part's place and all wholes made of the parts that are there."""
        machines = {**self.machines, name: machine}
        for whole, recipe in self.recipes.items():
            machines[whole] = made(recipe, machines)
        return machines

    def drifts_since(self, start):
        """A dict from all names to how far they may have come by the swaps behind the deed of this number.

        A whole is kept behind its parts, so theirs are known when it comes to it.
        """
        drifts = {name: Share(0) for name in self.machines}
        for deed in self.deeds[start + 1:]:
            drifts[deed.name] = at_most_one(plus(drifts[deed.name], deed.far))
        for whole, recipe in self.recipes.items():
            drifts[whole] = bound(recipe, self.fade, drifts)
        return drifts
