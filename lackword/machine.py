"""The smallest machine of a text: from its room 0 just the words that stand in the text can be gone."""

from lackword.errors import NoRoom
from lackword.kinds import MOST_ASKED, MOST_IN_STRIP, need_kinds, need_letter, need_word
from lackword.whole import is_within

# A room is known by its spots: the places of the text at which what can be
# gone from it begins. A spot whose rest of the text is the beginning of
# another spot's rest would add no word. Without such spots two rooms are
# alike just where their spots are the same: the rests are then the words of
# the room that can't be made longer, and no two rests have as many letters.


def first_spots(text):
    # A rest that stands farther to the left begins the rest there.
    return tuple([spot for spot in range(len(text) + 1) if text.find(text[spot:]) == spot])


def spots_behind(text, spots, letter):
    # No rest begins another one here either: with the letter ahead of both,
    # it would have done so among the spots that are handed in.
    return tuple([spot + 1 for spot in spots if text[spot:spot + 1] == letter])


def rooms_of(text, kinds):
    # Room by room a tuple is told: the first word that leads to the room,
    # and its ways as a dict from letters to rooms. Rooms are numbered as one
    # comes to them, so the word by which one comes is the first.
    spots = [first_spots(text)]
    words = [""]
    numbers = {spots[0]: 0}
    rooms = []
    while len(rooms) < len(spots):
        room = len(rooms)
        ways = {}
        for letter in kinds:
            behind = spots_behind(text, spots[room], letter)
            if len(behind) > 0 and behind not in numbers:
                numbers[behind] = len(spots)
                spots.append(behind)
                words.append(words[room] + letter)
            if len(behind) > 0:
                ways[letter] = numbers[behind]
        rooms.append((words[room], ways))
    return rooms


class Machine:
    def __init__(self, text, kinds):
        need_kinds(kinds)
        need_word(text, kinds, MOST_IN_STRIP)
        self.own_kinds = kinds
        self.own_rooms = rooms_of(text, kinds)

    def rooms(self):
        return len(self.own_rooms)

    def need_room(self, room):
        if not is_within(room, 0, len(self.own_rooms) - 1):
            raise NoRoom(room)

    def led(self, room, letter):
        return self.own_rooms[room][1].get(letter)

    def way(self, room, letter):
        self.need_room(room)
        need_letter(letter, self.own_kinds)
        return self.led(room, letter)

    def room_of(self, word):
        need_word(word, self.own_kinds, MOST_ASKED)
        room = 0
        for letter in word:
            room = self.led(room, letter)
            if room is None:
                return None
        return room

    def word_to(self, room):
        self.need_room(room)
        return self.own_rooms[room][0]

    def parting(self, room, other):
        self.need_room(room)
        self.need_room(other)
        # Words are tried in order. Where one leads to two rooms to which an
        # earlier one led, no word that begins with it can be the first. From
        # a room and itself each word leads to one room, and none is found.
        tried = [("", room, other)]
        seen = {(room, other): True}
        at = 0
        while at < len(tried):
            for letter in self.own_kinds:
                word = tried[at][0] + letter
                pair = (self.led(tried[at][1], letter), self.led(tried[at][2], letter))
                if (pair[0] is None) != (pair[1] is None):
                    return word
                if pair[0] is not None and pair not in seen:
                    seen[pair] = True
                    tried.append((word, pair[0], pair[1]))
            at += 1
        return None

    def ways(self):
        # The words are counted length by length, those of one length by the
        # rooms to which they lead; no word can be gone for ever.
        total = 0
        counts = {0: 1}
        while len(counts) > 0:
            total += sum(counts.values())
            counts = self.counts_behind(counts)
        return total

    def counts_behind(self, counts):
        behind = {}
        for room in counts:
            for letter in self.own_kinds:
                reached = self.led(room, letter)
                if reached is not None:
                    behind[reached] = behind.get(reached, 0) + counts[room]
        return behind
