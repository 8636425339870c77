"""Books: a web that changes by deeds, and pairs of programs whose states are told."""

from lotmarks.checks import is_list, is_name, is_name_list
from lotmarks.errors import BadDeed, BadName, Held, NoDeed, NotHeld, Taken, Used
from lotmarks.programs import check_program
from lotmarks.versions import same
from lotmarks.webs import Web, check_cells


class Book:
    """A web that changes, and pairs of programs that are held under names."""

    def __init__(self, web):
        self.web = web
        self.held = {}
        self.states = {}
        # Rows of a deed and of the webs ahead of it and behind it; of the rows taken back, the last one is done first.
        self.done = []
        self.taken_back = []

    def hold(self, name, one, other):
        """Hold two programs under a name."""
        if not is_name(name):
            raise BadName(name)
        if name in self.held:
            raise Held(name)
        check_program(self.web, one)
        check_program(self.web, other)
        self.held[name] = (one, other)
        self.states[name] = state_of(self.web, one, other)

    def drop(self, name):
        """Let the pair of programs go that is held under a name."""
        check_held(self.held, name)
        del self.held[name]
        del self.states[name]

    def state(self, name):
        """Whether the two programs that are held under a name are the same, unlike or lost."""
        check_held(self.held, name)
        return self.states[name]

    def names(self):
        """The ascending list of the names under which programs are held."""
        return sorted(self.held)

    def do(self, deed):
        """Do a deed; returns the news."""
        check_deed(self.web, deed)
        behind = web_behind(self.web, deed)
        self.done.append((plain_deed(deed), self.web, behind))
        self.taken_back = []
        return self.turn_to(behind)

    def undo(self):
        """Take the last deed back that is not taken back; returns the news."""
        if len(self.done) == 0:
            raise NoDeed()
        row = self.done.pop()
        self.taken_back.append(row)
        return self.turn_to(row[1])

    def again(self):
        """Do the last deed again that was taken back; returns the news."""
        if len(self.taken_back) == 0:
            raise NoDeed()
        row = self.taken_back.pop()
        self.done.append(row)
        return self.turn_to(row[2])

    def deeds(self):
        """The list of the deeds that are done and not taken back."""
        return [row[0] for row in self.done]

    def turn_to(self, web):
        """Put a web in the place of the one that is there; returns the pairs (name, state) whose state has changed."""
        elder = self.states
        self.web = web
        self.states = {name: state_of(web, pair[0], pair[1]) for name, pair in self.held.items()}
        return [(name, self.states[name]) for name in self.names() if self.states[name] != elder[name]]


def state_of(web, one, other):
    """The state of two programs in a web."""
    if not all([cell in web for cell in one.renewed() + other.renewed()]):
        return "lost"
    return "same" if same(web, one, other) else "unlike"


def check_held(held, name):
    """Raise NotHeld unless something is held under a name."""
    if not isinstance(name, str) or name not in held:
        raise NotHeld(name)


def is_deed(thing):
    """Whether a thing is a deed, whatever the web is."""
    if not is_list(thing) or len(thing) < 2 or not is_name(thing[1]):
        return False
    if len(thing) == 2:
        return thing[0] == "remove"
    return len(thing) == 3 and thing[0] in ("cell", "sources") and is_name_list(thing[2])


def plain_deed(deed):
    """A deed as a tuple, its sources as a tuple, too."""
    return (*deed[:2], *[tuple(sources) for sources in deed[2:]])


def check_deed(web, deed):
    """Raise an error unless a deed can be done; whether its sources are cells shows only in the web behind it."""
    if not is_deed(deed):
        raise BadDeed(deed)
    cell = deed[1]
    if deed[0] == "cell":
        if cell in web:
            raise Taken(cell)
        return
    check_cells(web, (cell,))
    if deed[0] == "remove" and (len(web) == 1 or any([target != cell for target in web.targets(cell)])):
        raise Used(cell)


def web_behind(web, deed):
    """The web that comes of a deed; UnknownCell for the first source that is no cell of it."""
    rows = [(cell, web.sources(cell)) for cell in web]
    if deed[0] == "cell":
        return Web(rows + [(deed[1], deed[2])])
    if deed[0] == "remove":
        return Web([row for row in rows if row[0] != deed[1]])
    return Web([(row[0], deed[2]) if row[0] == deed[1] else row for row in rows])
