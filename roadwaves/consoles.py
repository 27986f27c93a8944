"""Consoles: a workshop that is spoken to in lines of text."""

from roadwaves.cars import passing
from roadwaves.errors import InvalidPhrase, NotAWorkshop
from roadwaves.jams import jammed_places
from roadwaves.names import is_name
from roadwaves.texts import NONE, row_in, scene_in, text_of_fraction, text_of_rows, text_of_scene
from roadwaves.ways import number_at
from roadwaves.workshops import Workshop

DONE = "done"
# How many fractions there are behind the name.
FRACTIONS = {"number": 2, "passing": 2, "jams": 1}


class Console:
    """What is said to a workshop, and its answers."""

    def __init__(self, shop):
        if not isinstance(shop, Workshop):
            raise NotAWorkshop(shop)
        self.shop = shop

    def say(self, line):
        """The answer to a line."""
        phrase = phrase_in(line)
        if phrase is None:
            raise InvalidPhrase(line)
        word, name, told = phrase
        if word == "names":
            return " ".join(self.shop.names) or NONE
        if word in ("undo", "drop", "put"):
            return self.changed(word, name, told)
        return answer_about(self.shop.named(name), word, told)

    def changed(self, word, name, told):
        """The answer to a line that changes the workshop."""
        if word == "undo":
            self.shop.undo()
        elif word == "drop":
            self.shop.drop(name)
        else:
            self.shop.put(name, told)
        return DONE


def phrase_in(line):
    """The word, the name and what is told behind it in a line, None for what there is not; None for no such line."""
    if not isinstance(line, str):
        return None
    if line in ("names", "undo"):
        return (line, None, None)
    word, _, rest = line.partition(" ")
    if word in ("drop", "scene"):
        return (word, rest, None) if is_name(rest) else None
    name, _, text = rest.partition(": ")
    if not is_name(name):
        return None
    told = told_in(word, text)
    return None if told is None else (word, name, told)


def told_in(word, text):
    """What is told behind a name, a scene or fractions; None if the word is none or the text is none for it."""
    if word == "put":
        return scene_in(text)
    return row_in(text, FRACTIONS[word]) if word in FRACTIONS else None


def answer_about(scene, word, told):
    """The answer to a question about a scene."""
    if word == "scene":
        return text_of_scene(scene)
    if word == "number":
        return text_of_fraction(number_at(scene, told[0], told[1]))
    if word == "passing":
        return text_of_fraction(passing(scene, told[0], told[1]))
    return text_of_rows(jammed_places(scene, told[0])) or NONE
