"""Workshops: scenes under names with wishes that hold after each change, and changes that can be taken back."""

from roadwaves.errors import Broken, InUse, InvalidIndex, InvalidName, InvalidWish, NothingToUndo, UnknownName
from roadwaves.names import is_name
from roadwaves.rationals import is_whole
from roadwaves.scenes import check_scene
from roadwaves.wishes import is_held, is_wish


class Kept:
    """What a workshop was like when a block of a trial began, and what the trial has kept for the blocks around it."""

    def __init__(self, shop, outer):
        self.scenes = shop.scenes
        self.told = shop.told
        self.past = shop.past
        self.outer = outer


class Trial:
    """For `with` statements: a block that ends with an exception leaves the workshop as it was when it began."""

    def __init__(self, shop):
        self.shop = shop
        self.kept = None

    def __enter__(self):
        self.kept = Kept(self.shop, self.kept)
        return self.shop

    def __exit__(self, kind, value, trace):
        shop = self.shop
        if kind is not None:
            shop.scenes = self.kept.scenes
            shop.told = self.kept.told
            shop.past = self.kept.past
        self.kept = self.kept.outer


class Workshop:
    """Scenes under names, and wishes that always hold."""

    def __init__(self):
        # None of these is ever changed itself, as trials and earlier states may keep it: a new one takes its place.
        self.scenes = {}
        self.told = ()
        self.past = ()

    def __len__(self):
        return len(self.past)

    def __bool__(self):
        return True

    def __contains__(self, name):
        return is_name(name) and name in self.scenes

    @property
    def names(self):
        """The names of all scenes, ascending."""
        return tuple(sorted(list(self.scenes)))

    @property
    def wishes(self):
        """All wishes, as they were passed."""
        return self.told

    def put(self, name, scene):
        """Put a scene under a name, or another one in its place."""
        if not is_name(name):
            raise InvalidName(name)
        check_scene(scene)
        for index, wish in enumerate(self.told):
            if wish[1] == name and not is_held(scene, wish):
                raise Broken(index)
        self.change({**self.scenes, name: scene}, self.told)

    def drop(self, name):
        """Take the scene under a name away."""
        self.check_known(name)
        for index, wish in enumerate(self.told):
            if wish[1] == name:
                raise InUse(index)
        self.change({other: self.scenes[other] for other in self.scenes if other != name}, self.told)

    def wish(self, wish):
        """Let a wish hold from now on."""
        if not is_wish(wish):
            raise InvalidWish(wish)
        self.check_known(wish[1])
        if not is_held(self.scenes[wish[1]], wish):
            raise Broken(len(self.told))
        self.change(self.scenes, self.told + (wish,))

    def lift(self, index):
        """Take a wish away."""
        if not is_whole(index) or not 0 <= index < len(self.told):
            raise InvalidIndex(index)
        self.change(self.scenes, self.told[:index] + self.told[index + 1:])

    def named(self, name):
        """The scene under a name."""
        self.check_known(name)
        return self.scenes[name]

    def undo(self):
        """Take back the last change."""
        if not self.past:
            raise NothingToUndo()
        self.scenes, self.told = self.past[-1]
        self.past = self.past[:-1]

    def trial(self):
        """A trial of this workshop, for `with` statements."""
        return Trial(self)

    def tried(self, action):
        """Call a function with the workshop within a trial; what it returns."""
        with self.trial() as shop:
            return action(shop)

    def check_known(self, name):
        """Raise the error that is told for what is no name of a scene here."""
        if not is_name(name) or name not in self.scenes:
            raise UnknownName(name)

    def change(self, scenes, told):
        """Let other scenes and wishes take the place of those that are here."""
        self.past = self.past + ((self.scenes, self.told),)
        self.scenes = scenes
        self.told = told
