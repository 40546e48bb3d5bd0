"""The objects, where they lie, and what each side knows of them."""

SIDES = (0, 1)
ZONE_COUNT = 9
NOWHERE = -1

TO_DECK = 0
TO_HAND = 1
TO_VOID = 2
TO_FIELD = 3
TO_STACK = 4
TO_RIFT = 5

FIRST_OPEN_ZONE = 4
NO_CARD = 0

CHANCE_FACTOR = 6364136223846793005
CHANCE_STEP = 1442695040888963407
CHANCE_LIMIT = 18446744073709551616
CHANCE_SHARE = 8589934592


def deck_zone(side):
    return side


def hand_zone(side):
    return 2 + side


def zone_of(kind, owner):
    if kind <= TO_VOID:
        return 2 * kind + owner
    return kind + 3


def entry_place(kind, place, length):
    """Where in a list of this length an object that comes in by a move of this kind is put."""
    if kind == TO_DECK:
        return min(place, length)
    if kind == TO_VOID or kind == TO_STACK:
        return 0
    return length


class Piece:
    """An object of the document: a card, or (with NO_CARD) a token whose face is its sort."""

    def __init__(self, card, face, owner, zone):
        self.card = card
        self.face = face
        self.owner = owner
        self.zone = zone
        self.face_down = False


class State:
    """Everything that a line's calls change."""

    def __init__(self):
        self.renew(0, 0)

    def renew(self, seed, cap):
        self.chance = seed
        self.cap = cap
        self.last = 0
        self.pieces = {}
        self.zones = [[] for zone in range(ZONE_COUNT)]
        self.known = [{} for side in SIDES]

    def deck_of(self, side):
        return self.zones[deck_zone(side)]

    def hand_of(self, side):
        return self.zones[hand_zone(side)]

    def is_given(self, number):
        return 1 <= number <= self.last

    def is_card(self, number):
        return self.pieces[number].card != NO_CARD

    def is_live(self, number):
        return self.pieces[number].zone != NOWHERE

    def has_room(self, count):
        return self.last + count <= self.cap

    def draw_below(self, bound):
        self.chance = (self.chance * CHANCE_FACTOR + CHANCE_STEP) % CHANCE_LIMIT
        return self.chance // CHANCE_SHARE % bound

    def lies_open(self, number):
        piece = self.pieces[number]
        return piece.zone >= FIRST_OPEN_ZONE and not piece.face_down

    def sees(self, side, number):
        """Asked of live objects alone."""
        if self.lies_open(number) or self.pieces[number].zone == hand_zone(side):
            return True
        return number in self.known[side]

    def learn(self, side, number):
        self.known[side][number] = True

    def show_to_both(self, number):
        for side in SIDES:
            self.learn(side, number)

    def forget_zone(self, side, zone):
        for number in self.zones[zone]:
            self.known[side].pop(number, None)

    def give(self, card, face, owner, kind, place):
        """Bring a new object into the zone of its kind, and tell its number."""
        zone = zone_of(kind, owner)
        self.last += 1
        self.pieces[self.last] = Piece(card, face, owner, zone)
        self.zones[zone].insert(entry_place(kind, place, len(self.zones[zone])), self.last)
        return self.last

    def goes_on(self, number, kind):
        """Whether a move of this kind makes a new object: a token lives on the field alone."""
        return self.is_card(number) or kind == TO_FIELD

    def move(self, number, kind, place, followers):
        """Tell the number that the object went on as, 0 if it has ceased."""
        piece = self.pieces[number]
        # Asked before anything is moved: what counts is what a side saw just before.
        seers = [side for side in followers if self.sees(side, number)]
        self.zones[piece.zone].remove(number)
        piece.zone = NOWHERE
        piece.face_down = False
        if not self.goes_on(number, kind):
            return 0
        successor = self.give(piece.card, piece.face, piece.owner, kind, place)
        for side in seers:
            self.learn(side, successor)
        return successor

    def is_kept(self, side, number):
        """Whether a side's set is the place to keep that it sees this object."""
        if not self.is_live(number) or self.lies_open(number):
            return False
        return self.pieces[number].zone != hand_zone(side)

    def tidy(self):
        """Due at the end of each call: what is seen without being known leaves the sets."""
        for side in SIDES:
            for number in list(self.known[side]):
                if not self.is_kept(side, number):
                    self.known[side].pop(number)
