"""The definitions of the document once more, word for word and without regard to speed.

`Past(rows)` tells what holds behind the rows of a valid log. Only the form of a row is asked of the program.
"""

from whoheld.rows import is_row


class Numbers:
    """What became of the numbers of some rows."""

    def __init__(self, rows):
        self.rows = tuple(rows)
        self.opened, self.outer, self.hits, self.commits, self.prepares = {}, {}, {}, {}, {}
        self.running = []
        for index, row in enumerate(self.rows):
            self.step(index, row)
        self.known = {}

    def step(self, index, row):
        word = row[0]
        if word == "open":
            self.opened[row[1]], self.outer[row[1]], self.hits[row[1]] = index, row[2], []
            self.running.append(row[1])
        if word in ("commit", "abort", "prepare") and row[1] in self.running:
            self.running.remove(row[1])
        if word == "commit":
            self.commits[row[1]] = index
        if word == "abort":
            self.hits[row[1]].append(index)
        if word == "prepare":
            self.prepares[row[1]] = (index, row[2])
        if word == "fall":
            fallen = [number for number in self.opened if self.top(number) in self.running]
            for number in fallen:
                self.hits[number].append(index)
            self.running = [number for number in self.running if number not in fallen]

    def around(self, number):
        found = [number]
        while self.outer[found[-1]] is not None:
            found.append(self.outer[found[-1]])
        return found

    def top(self, number):
        return self.around(number)[-1]

    def family(self, number):
        return [other for other in self.opened if self.top(other) == self.top(number)]

    def fate(self, number):
        if number not in self.known:
            self.known[number] = self.found_fate(number)
        return self.known[number]

    def found_fate(self, number):
        hits = [hit for other in self.around(number) for hit in self.hits[other]]
        if hits:
            return ("aborted", min(hits))
        if all(other in self.commits for other in self.around(number)):
            return ("committed", self.commits[self.top(number)])
        return ("open", None)

    def is_innermost(self, number):
        runs_within = [other for other in self.running if number in self.around(other) and other != number]
        return number in self.running and not runs_within

    def is_waiting(self, number):
        return number in self.prepares and self.fate(number)[0] == "open"

    def allows(self, row):
        """The rules of [4] and the rules of numbers of [9]."""
        word = row[0]
        if word == "open":
            if row[1] != max(self.opened, default=0) + 1:
                return False
            if row[2] is None:
                return True
            return row[2] in self.opened and self.is_innermost(row[2]) and len(self.around(row[2])) <= 3
        if word in ("put", "change", "strike", "lock", "refused"):
            return row[1] in self.opened and self.is_innermost(row[1])
        if word in ("commit", "abort"):
            return row[1] in self.opened and (self.is_innermost(row[1]) or self.is_waiting(row[1]))
        if word == "prepare":
            if row[1] not in self.opened or self.outer[row[1]] is not None:
                return False
            return self.is_innermost(row[1]) and row[2] <= self.opened[row[1]]
        return word != "word" or row[1] is None or row[1] <= len(self.rows)


class Past:
    """What holds behind the rows of a valid log."""

    def __init__(self, rows):
        self.rows = tuple(rows)
        self.slots = {(page, slot): None for page in range(8) for slot in range(8)}
        for index, row in enumerate(self.rows):
            self.numbers = Numbers(self.rows[:index])
            self.step(row)
        self.numbers = Numbers(self.rows)

    def step(self, row):
        word = row[0]
        if word == "put":
            self.slots[row[2:4]] = self.new(row[4], row[5], row[1])
        if word in ("change", "strike"):
            self.slots[row[2:4]]["ender"] = row[1]
        if word == "change":
            self.slots[row[4:6]] = self.new(self.slots[row[2:4]]["key"], row[6], row[1])
        if word == "lock":
            self.slots[row[2:4]]["lockers"].append(row[1])
        if word in ("clean", "tidy"):
            for slot in row[2]:
                self.slots[row[1], slot] = {"key": self.slots[row[1], slot]["key"]}
        if word == "clean":
            for slot in row[3]:
                self.slots[row[1], slot]["old"] = True
            for slot in range(8):
                version = self.slots[row[1], slot]
                if version and "maker" in version and self.fate_is(version["ender"], "aborted"):
                    version["ender"] = None
        if word == "sweep":
            for spot in self.slots:
                if self.slots[spot] and "maker" not in self.slots[spot]:
                    self.slots[spot] = None

    @staticmethod
    def new(key, value, maker):
        return {"key": key, "value": value, "maker": maker, "ender": None, "old": False, "lockers": []}

    def fate_is(self, number, word):
        return number is not None and self.numbers.fate(number)[0] == word

    def commit(self, number):
        return self.numbers.fate(number)[1] if self.fate_is(number, "committed") else None

    def versions(self, key=None):
        return {
            spot: held for spot, held in self.slots.items()
            if held and "maker" in held and (key is None or held["key"] == key)
        }

    def image(self, spot):
        held = self.slots[spot]
        if held is None:
            return None
        if "maker" not in held:
            return ("stub", held["key"])
        return ("version", held["key"], held["value"], held["maker"], held["ender"], held["old"],
                tuple(sorted(held["lockers"])))

    def pages(self):
        return tuple(tuple(self.image((page, slot)) for slot in range(8)) for page in range(8))

    def word(self):
        word = None
        for row in self.rows:
            if row[0] in ("word", "fall"):
                word = row[1] if row[0] == "word" else None
        return word

    # The rules of [7]; `number` is the number of a transaction, or any other value.

    def own(self, number):
        if number not in self.numbers.opened:
            return []
        return [other for other in self.numbers.family(number) if not self.fate_is(other, "aborted")]

    def is_of_another_family(self, number, other):
        return number not in self.numbers.opened or self.numbers.top(number) != self.numbers.top(other)

    def stands(self, version, number):
        made = version["maker"] in self.own(number) or self.fate_is(version["maker"], "committed")
        return made and (version["ender"] is None or self.fate_is(version["ender"], "aborted"))

    def doubters(self, version, number):
        if self.fate_is(version["maker"], "aborted"):
            return set()
        return {
            self.numbers.top(other) for other in (version["maker"], version["ender"])
            if self.fate_is(other, "open") and self.is_of_another_family(number, other)
        }

    def standing(self, key, number):
        found = [spot for spot, version in self.versions(key).items() if self.stands(version, number)]
        assert len(found) <= 1
        return found[0] if found else None

    def doubts(self, key, number):
        found = set()
        for version in self.versions(key).values():
            found |= self.doubters(version, number)
        return tuple(sorted(found))

    def has_own(self, key, number):
        return any(version["maker"] in self.own(number) for version in self.versions(key).values())

    def due(self):
        return min((spot for spot in self.slots if self.slots[spot] is None), default=None)

    def allows_deed(self, row):
        word, number, spot = row[0], row[1], row[2:4]
        if word == "put":
            return self.standing(row[4], number) is None and not self.doubts(row[4], number) and spot == self.due()
        version = self.versions().get(spot)
        if version is None:
            return False
        if version["maker"] not in self.own(number) and self.has_own(version["key"], number):
            return False
        if word == "refused":
            made, ended = self.commit(version["maker"]), self.commit(version["ender"])
            if made is None or ended is None or not made < ended:
                return False
            return self.is_of_another_family(number, version["ender"])
        if not self.stands(version, number):
            return False
        if word == "lock":
            own_locks = [locker for locker in version["lockers"] if locker in self.own(number)]
            return self.fate_is(version["maker"], "committed") and not own_locks
        bars = [
            locker for locker in version["lockers"]
            if self.fate_is(locker, "open") and self.is_of_another_family(number, locker)
        ]
        return not bars and (word == "strike" or row[4:6] == self.due())

    # The rules of [8].

    def is_dead_below(self, version, horizon):
        commit = self.commit(version["ender"])
        return self.fate_is(version["maker"], "aborted") or (commit is not None and commit < horizon)

    def cleaned(self, page, horizon):
        removed, marked = [], []
        for (at, slot), version in self.versions().items():
            if at == page and self.is_dead_below(version, horizon):
                removed.append(slot)
            elif at == page and not version["old"] and self.commit(version["maker"]) is not None:
                marked += [slot] if self.commit(version["maker"]) < horizon else []
        return tuple(removed), tuple(marked)

    def allows(self, row):
        """Whether any value is a valid row [9]."""
        if not is_row(row) or not self.numbers.allows(row):
            return False
        word = row[0]
        if word in ("put", "change", "strike", "lock", "refused"):
            return self.allows_deed(row)
        if word == "clean":
            return any(self.cleaned(row[1], horizon) == row[2:4] for horizon in range(len(self.rows) + 2))
        if word == "tidy":
            endless = len(self.rows) + 1
            held = [self.versions().get((row[1], slot)) for slot in row[2]]
            return all(version is not None and self.is_dead_below(version, endless) for version in held)
        return word != "sweep" or any(held and "maker" not in held for held in self.slots.values())

    def is_plain(self, page):
        held = [self.slots[page, slot] for slot in range(8) if self.slots[page, slot]]
        if not held or any("maker" not in version for version in held):
            return False
        return all(
            version["old"] and version["ender"] is None
            and not any(self.fate_is(locker, "open") for locker in version["lockers"])
            for version in held
        )

    # The views of [10].

    def sees(self, view, spot, number=None):
        version, own = self.versions()[spot], self.own(number)
        if number is not None and version["maker"] in own and version["ender"] not in own:
            return True
        if number is not None and (self.has_own(version["key"], number) or version["ender"] in own):
            return False
        made, ended = self.commit(version["maker"]), self.commit(version["ender"])
        return made is not None and made < view and not (ended is not None and ended < view)

    def seen(self, view, number=None):
        """A dict from each key that is seen to the spot."""
        found = {}
        for spot, version in self.versions().items():
            if self.sees(view, spot, number):
                assert version["key"] not in found
                found[version["key"]] = spot
        return found

    def page_slots(self, view, page):
        plain = self.is_plain(page)
        return tuple(slot for at, slot in self.versions() if at == page and (plain or self.sees(view, (at, slot))))
