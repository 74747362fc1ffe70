"""What two terms become together, or where they can't, found without the rows that would show it."""

from termshelf.signs import part_end


def _clash_at_once(one, other):
    """Whether both have unlike words at a spot, by which most terms that don't meet are told at once."""
    places = one.words().table()
    signs, others = one.signs(), other.signs()
    at = beside = 0
    while at < len(signs):
        sign = signs[at]
        if sign == others[beside]:
            at += 1
            beside += 1
        elif sign in places and others[beside] in places:
            return True
        else:
            at = part_end(places, signs, at)
            beside = part_end(places, others, beside)
    return False


def united(one, other):
    """The uniting of two terms that meet, None of others."""
    if _clash_at_once(one, other):
        return None
    uniting = Uniting(one, other)
    return None if uniting.whole() is None else uniting


class Uniting:
    """Two terms that are to become one; the signs of both stand in one list, and parts are called by places in it.

    Letters that must become the same stand in one class, which is called by its root, a place of one of them. A class
    whose letters must become some part that begins with a word has such a part as its bearer. Where two such parts
    must become the same, they are a pair, as both terms are the first pair, and are walked side by side; what is found
    to be the same in a pair is noted down, to be told why.
    """

    def __init__(self, one, other):
        self._table = one.words().table()
        self._shift = len(one)
        self._signs = one.signs() + other.signs()
        self._ends = one.ends() + [self._shift + end for end in other.ends()]
        self._first_places = ({}, {})
        self._roots = {}
        self._bearers = {}
        self._pairs = [(0, self._shift)]
        self._notes = []
        self._known = [0]
        self._clash = None
        self._become = {}
        for at, sign in enumerate(self._signs):
            if sign not in self._table:
                self._roots[at] = self._first_places[0 if at < self._shift else 1].setdefault(sign, at)
        self._unite()
        self._whole = self._part_signs(0) if self._clash is None else None

    def _unite(self):
        """Walk pair by pair, until nothing is left to do or two words clash."""
        done = 0
        while done < len(self._pairs) and self._clash is None:
            self._walk(done)
            done += 1

    def _walk(self, number):
        one, other = self._pairs[number]
        end = self._ends[one]
        while one < end:
            if one in self._roots or other in self._roots:
                self._join(one, other, number)
                one = self._ends[one]
                other = self._ends[other]
            elif self._signs[one] == self._signs[other]:
                one += 1
                other += 1
            else:
                self._clash = (one, other, number)
                return

    def _join(self, one, other, number):
        """Make two parts of a pair the same, at least one of which is a letter."""
        self._notes.append((one, other, number))
        if one not in self._roots:
            one, other = other, one
        root = self._root(one)
        bearer = self._bearers.get(root)
        if other in self._roots:
            old = root
            root = self._root(other)
            if old == root:
                return
            self._roots[old] = root
            other = self._bearers.get(root)
        if bearer is None:
            bearer, other = other, None
        if bearer is not None:
            self._bearers[root] = bearer
        if other is not None:
            self._pair(bearer, other)

    def _pair(self, one, other):
        """Note down that two parts with words must become the same."""
        # In a ring the same pairs would come again and again.
        if (one, other) not in self._pairs:
            self._pairs.append((one, other))
            self._known.append(len(self._notes))

    def _root(self, at):
        while self._roots[at] != at:
            at = self._roots[at]
        return at

    def _part_signs(self, at):
        """The signs of what a part becomes, None where it would have to become a part of itself."""
        told = []
        for place in range(at, self._ends[at]):
            if place in self._roots:
                signs = self._letter_signs(place)
                if signs is None:
                    return None
                told.extend(signs)
            else:
                told.append(self._signs[place])
        return told

    def _letter_signs(self, at):
        root = self._root(at)
        if root not in self._become:
            # This stands there as long as it is looked for, and is found where a ring comes back to it.
            self._become[root] = None
            bearer = self._bearers.get(root)
            self._become[root] = [f"N{root}"] if bearer is None else self._part_signs(bearer)
        return self._become[root]

    def whole(self):
        """The signs of what both become, with any letters, None where they don't meet."""
        return self._whole

    def becoming(self, side):
        """The signs of what each letter of a side becomes, of two terms that meet."""
        firsts = self._first_places[side]
        return {letter: self._letter_signs(firsts[letter]) for letter in firsts}

    def clash(self):
        """The two parts whose words clash and the number of the pair in which they do, None where none do."""
        return self._clash

    def pair(self, number):
        """The two parts of a pair, and how many notes there were when it was found."""
        one, other = self._pairs[number]
        return (one, other, self._known[number])

    def notes(self):
        """Tuples of two parts, and of the number of the pair in which they were found to be the same."""
        return list(self._notes)

    def ring(self):
        """Pairs of a letter and its class's bearer, in which the next one's letter stands, round and round."""
        at = [place for place in self._roots if self._is_endless(place)][0]
        seen = []
        while self._root(at) not in [self._root(letter) for letter in seen]:
            seen.append(at)
            at = self._endless_letter(self._bearers[self._root(at)])
        roots = [self._root(letter) for letter in seen]
        # The ring is closed by the letter that led back to where it begins.
        letters = [at] + seen[roots.index(self._root(at)) + 1:]
        return [(letter, self._bearers[self._root(letter)]) for letter in letters]

    def _is_endless(self, at):
        return self._become.get(self._root(at), []) is None

    def _endless_letter(self, bearer):
        """A letter within a part that would have to become a part of itself."""
        places = range(bearer, self._ends[bearer])
        return [place for place in places if place in self._roots and self._is_endless(place)][0]
