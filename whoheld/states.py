"""The state behind a log."""

from whoheld.checks import row_fits, versions_at
from whoheld.effects import enter_pages, set_image
from whoheld.errors import InvalidRow, NoPage, NoSlot
from whoheld.fates import Fates
from whoheld.names import is_place
from whoheld.pages import due_slot, empty_pages
from whoheld.rows import is_row, made
from whoheld.slots import KEY, is_version
from whoheld.versions import cleaned_slots, doubters, ended_commit, has_own_version, is_dead_version
from whoheld.versions import is_plain_page, made_commit, seen_of, stands


class State:
    """The state behind a log, at first behind the empty one."""

    def __init__(self):
        self._rows = []
        self._fates = Fates()
        self._pages = list(empty_pages())
        self._spots = {}  # the entries of each key
        self._stubs = []  # their spots
        self._word = None

    @classmethod
    def of(cls, rows):
        """The state behind a tuple of any values."""
        state = cls()
        for row in rows:
            state.apply(row)
        return state

    def apply(self, row):
        """Takes a valid row."""
        if not self.can_stand(row):
            raise InvalidRow(len(self._rows))
        self.enter(row)

    def enter(self, row):
        """Takes a row of which it is known that it is valid."""
        enter_pages(self._fates, self._pages, row)
        self._fates.enter(row)
        self._rows.append(row)
        if row[0] in ("put", "change"):
            self._meet_version(made(row))
        elif row[0] in ("clean", "tidy"):
            self._stubs = self._stubs + [(row[1], slot) for slot in row[2]]
        elif row[0] == "sweep":
            self._sweep()
        elif row[0] == "word":
            self._word = row[1]
        elif row[0] == "fall":
            self._word = None

    def can_stand(self, row):
        """Whether any value is a row that is valid behind those before it."""
        if not is_row(row) or not self._fates.allows(row):
            return False
        return len(self._stubs) > 0 if row[0] == "sweep" else row_fits(self._fates, self._spots, self._pages, row)

    @property
    def rows(self):
        """The tuple of the rows."""
        return tuple(self._rows)

    @property
    def pages(self):
        """The eight page images."""
        return tuple(self._pages)

    @property
    def word_in_force(self):
        """The word in force for the next row, or None."""
        return self._word

    @property
    def stubs(self):
        """How many stubs there are."""
        return len(self._stubs)

    def fates(self):
        """A copy of the fates of the rows."""
        return self._fates.twin()

    def fates_now(self):
        """The fates of the rows, which go on with the rows and which callers only ask."""
        return self._fates

    def images_on(self, page):
        """The page image of an integer that is a page."""
        return self._pages[page]

    def __getitem__(self, at):
        if not isinstance(at, tuple) or len(at) != 2:
            return self._page_at(at)
        page, slot = at
        images = self._page_at(page)
        if not is_place(slot):
            raise NoSlot(slot)
        return images[slot]

    def __iter__(self):
        raise TypeError("a state is not iterated over")

    def __len__(self):
        return len(self._rows)

    def __repr__(self):
        return f"State({len(self._rows)} rows, {self._version_count()} versions, {self.stubs} stubs)"

    def entries_of(self, key):
        """The ascending tuple of the entries of a key."""
        return self._spots.get(key, ())

    def made_at(self, page, slot):
        """The commit of the maker of the version in a slot, or None."""
        image = self._image_at(page, slot)
        return made_commit(self._fates, image) if is_version(image) else None

    def ended_at(self, page, slot):
        """The commit of the ender of the version in a slot, or None."""
        image = self._image_at(page, slot)
        return ended_commit(self._fates, image) if is_version(image) else None

    def is_dead(self, page, slot):
        """Whether a slot has a version with an aborted maker or a committed ender."""
        return is_dead_version(self._fates, self._image_at(page, slot))

    def own_numbers(self, number):
        """The list of the numbers of its family that are not aborted; none for any value that is no number."""
        return self._fates.own_numbers(number)

    def standing(self, key, number):
        """The entry of the version of a key that stands for the transaction with this number, or None."""
        own = self._fates.own_numbers(number)
        for spot, image in self._versions_of(key):
            if stands(self._fates, image, own):
                return spot
        return None

    def has_own(self, key, number):
        """Whether an own number made a version of a key."""
        return has_own_version(versions_at(self._pages, self.entries_of(key)), self._fates.own_numbers(number))

    def doubts(self, key, number):
        """The ascending tuple of the outer transactions that put versions of a key in doubt for a number."""
        images = versions_at(self._pages, self.entries_of(key))
        return tuple(sorted(set([top for image in images for top in doubters(self._fates, image, number)])))

    def seen(self, key, view, own):
        """The pair of the spot and the image of the version of a key that is seen with these own numbers, or None."""
        return seen_of(self._fates, self._versions_of(key), view, own)

    def keys_used(self):
        """The ascending list of the keys that have entries."""
        return sorted(list(self._spots))

    def due(self, count):
        """The spot that a new version takes if only so many pages are used, or None."""
        return due_slot(self._pages, count)

    def rivals(self, number, others):
        """The ascending list of the outer transactions of those of `others` that are open and of another family."""
        return sorted(set(self._fates.rivals(number, others)))

    def fate_of(self, number):
        """The pair of the fate of a number and of the row that decided it, as `Fates.fate` tells it."""
        return self._fates.fate(number)

    def is_outer(self, number):
        """Whether a number is that of an outer transaction."""
        return self._fates.outer_of(number) is None

    def next_number(self):
        """The number that the next open row has."""
        return self._fates.greatest + 1

    def waiting(self):
        """The ascending list of the pairs (number, view) of the prepared transactions that have not ended."""
        return self._fates.waiting()

    def rows_from(self, index):
        """The list of the rows from an index on."""
        return self._rows[index:]

    def cleaned(self, page, horizon):
        """The pair (removed, marked) of a clean row of a page for this horizon."""
        return cleaned_slots(self._fates, self._images_of(page), horizon)

    def is_plain(self, page):
        """Whether a page is plain."""
        return is_plain_page(self._fates, self._images_of(page))

    def twin(self):
        """Another state behind the same rows."""
        other = State()
        other._become(self)
        return other

    def lose(self, count):
        """Forgets the last rows and what they did."""
        self._become(State.of(self._rows[:len(self._rows) - count]))

    def _become(self, other):
        self._rows = list(other._rows)
        self._fates = other._fates.twin()
        self._pages = list(other._pages)
        self._spots = dict(other._spots)
        self._stubs = list(other._stubs)
        self._word = other._word

    def _meet_version(self, spot):
        page, slot = spot
        key = self._pages[page][slot][KEY]
        self._spots[key] = tuple(sorted(self.entries_of(key) + (spot,)))

    def _sweep(self):
        for page, slot in self._stubs:
            key = self._pages[page][slot][KEY]
            left = tuple([spot for spot in self._spots[key] if spot != (page, slot)])
            if len(left) > 0:
                self._spots[key] = left
            else:
                del self._spots[key]
            set_image(self._pages, (page, slot), None)
        self._stubs = []

    def _versions_of(self, key):
        found = [((page, slot), self._pages[page][slot]) for page, slot in self.entries_of(key)]
        return [(spot, image) for spot, image in found if is_version(image)]

    def _version_count(self):
        return len([image for images in self._pages for image in images if is_version(image)])

    def _page_at(self, page):
        if not is_place(page):
            raise NoPage(page)
        return self._pages[page]

    def _images_of(self, page):
        return self._pages[page] if is_place(page) else ()

    def _image_at(self, page, slot):
        return self._pages[page][slot] if is_place(page) and is_place(slot) else None
