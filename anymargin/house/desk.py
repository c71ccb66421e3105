"""A desk: a machine that is edited door by door, and what is told of it."""
from anymargin.base.checks import check_number, is_number
from anymargin.base.exact import order_of
from anymargin.come.every import comes_with_every, margin_answer
from anymargin.errors import InvalidNumber, InvalidOperation, NothingToUndo, TooMany
from anymargin.machine.machines import MOST_DOORS, Machine, are_limits, check_machine, has_door_form, is_tight
from anymargin.machine.machines import with_limits, without_doors
from anymargin.machine.runs import check_its_run, needed_by
from anymargin.mend.mends import least_mends

MOST_CALLS = 200


class Desk:
    """It changes: it has a first machine, and the calls that edited it."""

    def __init__(self, machine):
        check_machine(machine)
        self._calls = []
        # The machines behind no call, behind the first one, and so on.
        self._machines = [machine]

    @property
    def machine(self):
        """The machine of now."""
        return self._machines[-1]

    @property
    def first(self):
        """The machine behind no call."""
        return self._machines[0]

    @property
    def calls(self):
        """The tuple of the calls that stand."""
        return tuple(self._calls)

    def put_door(self, index, door):
        """Puts a door so that it has the index; how many calls stand."""
        now = self._machines[-1]
        check_number(index, 0, len(now.doors))
        if not has_door_form(now.clocks, now.rooms, door):
            raise InvalidOperation("not a door of the machine")
        if len(now.doors) == MOST_DOORS:
            raise TooMany(MOST_DOORS)
        doors = now.doors[:index] + (door,) + now.doors[index:]
        return self.stand(("put", index, door), Machine(now.clocks, now.limits, doors))

    def take_door(self, index):
        """Takes a door away; how many calls stand."""
        now = self._machines[-1]
        check_number(index, 0, len(now.doors) - 1)
        return self.stand(("take", index), without_doors(now, (index,)))

    def set_limits(self, room, limits):
        """Gives a room other limits; how many calls stand."""
        now = self._machines[-1]
        check_number(room, 0, now.rooms - 1)
        if not are_limits(now.clocks, limits):
            raise InvalidOperation("not limits of the machine")
        return self.stand(("limits", room, limits), with_limits(now, room, limits))

    def stand(self, call, machine):
        """Lets one more call stand, if there are not too many; how many there are."""
        if len(self._calls) == MOST_CALLS:
            raise TooMany(MOST_CALLS)
        self._calls.append(call)
        self._machines.append(machine)
        return len(self._calls)

    def undo(self, *, calls=1):
        """Takes the last calls back; how many stand."""
        if not is_number(calls) or calls < 1:
            raise InvalidNumber(calls)
        left = len(self._calls) - calls
        if left < 0:
            raise NothingToUndo(calls)
        self._calls = self._calls[:left]
        self._machines = self._machines[:left + 1]
        return left

    def comes(self, room):
        """Whether the room is come to with every margin."""
        return comes_with_every(self._machines[-1], room)

    def answer(self, room):
        """A chain to the room, or the least margin with a table."""
        return margin_answer(self._machines[-1], room)

    def mends(self, room):
        """The least lots of at most two doors that mend the room."""
        return least_mends(self._machines[-1], room)

    def since(self, room):
        """The least number of calls from which on the room comes with every margin as now, or does not."""
        now = comes_with_every(self._machines[-1], room)
        many = len(self._calls)
        while many > 0 and does_tell(self._machines[many - 1], room, now):
            many -= 1
        return many

    def behind(self, many):
        """The machine behind the first so many calls."""
        check_number(many, 0, len(self._calls))
        return self._machines[many]

    def places(self, many):
        """For each door of the machine behind so many calls the index that it has now, None if it was taken away."""
        check_number(many, 0, len(self._calls))
        return places_behind(len(self._machines[many].doors), self._calls[many:])

    def led(self, many, run):
        """The run of the machine behind so many calls as one of now, None if one of its doors was taken away."""
        check_number(many, 0, len(self._calls))
        check_its_run(self._machines[many], run)
        found = places_behind(len(self._machines[many].doors), self._calls[many:])
        steps = tuple([(wait, found[door]) for wait, door in run])
        return None if None in [door for wait, door in steps] else steps

    def keeps(self, many, run):
        """Whether the run is led to one that needs no greater margin."""
        steps = self.led(many, run)
        if steps is None:
            return False
        return order_of(needed_by(self._machines[-1], steps), needed_by(self._machines[many], run)) <= 0

    def twin(self):
        """An equal desk that changes by itself."""
        other = Desk(self._machines[0])
        other._calls = list(self._calls)
        other._machines = list(self._machines)
        return other

    def __len__(self):
        return len(self._calls)

    def __eq__(self, other):
        if not isinstance(other, Desk):
            return False
        return self._machines[0] == other.first and self.calls == other.calls

    def __str__(self):
        now = self._machines[-1]
        return f"desk of {now.rooms} rooms, {len(now.doors)} doors, {len(self._calls)} calls"


def does_tell(machine, room, wanted):
    """Whether the machine is tight, and the room comes with every margin just as it is wanted."""
    return is_tight(machine) and comes_with_every(machine, room) == wanted


def places_behind(doors, calls):
    """For each of so many doors the index that it has behind the calls, None if it was taken away."""
    found = list(range(doors))
    for call in calls:
        if call[0] == "put":
            found = [place if place is None or place < call[1] else place + 1 for place in found]
        elif call[0] == "take":
            found = [None if place == call[1] else place for place in found]
            found = [place if place is None or place < call[1] else place - 1 for place in found]
    return tuple(found)
