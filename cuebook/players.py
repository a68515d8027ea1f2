"""Players: what each one has heard since it last spoke, and whether its cue has just come."""


class Player:
    def __init__(self, name, entries):
        self.name = name
        self.entries = tuple(entries)
        self.spoken = 0
        self.heard = []

    def hear(self, word):
        self.heard.append(word)

    def entry(self):
        return self.entries[self.spoken] if self.spoken < len(self.entries) else None

    def spoke(self):
        self.spoken += 1
        self.heard = []

    def cue_came(self):
        if self.entry() is None:
            return False
        cue = self.entry()[0]
        if len(cue) == 0:
            return self.spoken == 0 and len(self.heard) == 0
        # The last word is asked first: few words end a cue, and for the others a long one is not copied.
        return self.heard[-1:] == [cue[-1]] and tuple(self.heard[-len(cue):]) == cue

    def ready(self):
        return self.cue_came()


class Held(Player):
    def __init__(self, name, entries, places):
        Player.__init__(self, name, entries)
        self.place = 0
        # A dict, so that many holds don't make each word slower.
        self.places = {}
        for place in places:
            self.places[place] = True

    def count(self, place):
        self.place = place

    def ready(self):
        return self.place not in self.places and self.cue_came()
