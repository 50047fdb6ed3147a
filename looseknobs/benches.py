"""A bench at which somebody works at a circuit: lines are moved, and knobs are set."""

from looseknobs.angles import is_angle
from looseknobs.circuits import Circuit
from looseknobs.errors import BadAngle, BadName, NoKnob, NoLine, NothingToRedo, NothingToUndo, NoTrial, Unlike
from looseknobs.kinds import is_name, is_whole
from looseknobs.likeness import SAME, same
from looseknobs.ratios import as_ratio
from looseknobs.sequences import ascending
from looseknobs.starts import mean, need_start


# Each step is (deed, circuit, setting): what was done, and what was there behind
# it. All steps are kept in tuples, which a trial can put back as they were.
class Bench:
    """A circuit as it is worked at, with a start, a setting, and all deeds that stand or were taken back."""

    def __init__(self, circuit, start):
        need_start(circuit, start)
        self.first = circuit
        self.start = start
        self._steps = ()
        self._taken = ()
        self._block = None

    @property
    def circuit(self):
        """The circuit as it is now."""
        if len(self._steps) == 0:
            return self.first
        return self._steps[-1][1]

    @property
    def setting(self):
        """The setting of the knobs that are set now."""
        if len(self._steps) == 0:
            return ()
        return self._steps[-1][2]

    @property
    def done(self):
        """How many deeds stand."""
        return len(self._steps)

    @property
    def deeds(self):
        """The deeds that stand, each one told by its name and what was handed in."""
        return tuple([deed for deed, circuit, setting in self._steps])

    def __len__(self):
        return len(self.circuit)

    def __contains__(self, value):
        return value in self.circuit.knobs and value not in [row[0] for row in self.setting]

    def __eq__(self, other):
        if not isinstance(other, Bench):
            return False
        return self.first == other.first and self.start == other.start and self.deeds == other.deeds

    def put(self, place, line):
        """A line comes in ahead of that with this number, or at the end."""
        self._do(("put", place, line), self.circuit.put(place, line), self.setting)

    def drop(self, number):
        """A line goes."""
        self._do(("drop", number), self.circuit.without(number), self.setting)

    def exchange(self, number):
        """This line and the next one change places, if that changes nothing."""
        if not is_whole(number) or not 0 <= number < len(self.circuit) - 1:
            raise NoLine(number)
        line = self.circuit[number]
        if not _pass_by(self.circuit.wires, line, self.circuit[number + 1]):
            raise Unlike(number)
        self._do(("exchange", number), self.circuit.without(number).put(number + 1, line), self.setting)

    def fix(self, knob, c, s):
        """A knob has the angle with this cosine and this sine."""
        if not is_name(knob):
            raise BadName(knob)
        if not is_angle(c, s):
            raise BadAngle((c, s))
        rows = {row[0]: row for row in self.setting}
        rows[knob] = (knob, as_ratio(c), as_ratio(s))
        deed = ("fix", knob, as_ratio(c), as_ratio(s))
        self._do(deed, self.circuit, tuple([rows[name] for name in ascending(list(rows))]))

    def loosen(self, knob):
        """A knob is not set any more."""
        if knob not in [row[0] for row in self.setting]:
            raise NoKnob(knob)
        self._do(("loosen", knob), self.circuit, tuple([row for row in self.setting if row[0] != knob]))

    def mean(self, word):
        """The Wave that is left of the mean if the set knobs have their angles."""
        return mean(self.circuit, self.start, word).put(self.setting)

    def read(self, word):
        """The number of this Wave, if no knob is left in it."""
        return self.mean(word).at(())

    def undo(self):
        """Take the last deed back that stands."""
        if len(self._steps) == 0:
            raise NothingToUndo(None)
        self._taken = (*self._taken, self._steps[-1])
        self._steps = self._steps[:-1]

    def redo(self):
        """Do the deed again that was taken back last."""
        if len(self._taken) == 0:
            raise NothingToRedo(None)
        self._steps = (*self._steps, self._taken[-1])
        self._taken = self._taken[:-1]

    def trial(self):
        """What begins a block behind which all is as it was, if it is not kept."""
        return Trial(self)

    def keep(self):
        """What is done in the innermost block is kept."""
        block = self._block
        if block is None:
            raise NoTrial(None)
        block.kept = True

    def tried(self, look, *, keep=False):
        """What look returns of the bench within a block, which is kept if keep is True."""
        with self.trial():
            found = look(self)
            if keep is True:
                self.keep()
        return found

    def copy(self):
        """An independent bench, alike in all things, outside of all blocks."""
        made = Bench(self.first, self.start)
        made._steps = self._steps
        made._taken = self._taken
        return made

    def _do(self, deed, circuit, setting):
        """Do what is done by this deed, and leads to this circuit and this setting."""
        self._steps = (*self._steps, (deed, circuit, setting))
        self._taken = ()


class Trial:
    """A block at a bench: it puts back all steps that were there, unless it is kept."""

    def __init__(self, bench):
        self.bench = bench
        self.kept = None
        self._outer = None
        self._steps = ()
        self._taken = ()

    def __enter__(self):
        bench = self.bench
        self._outer = bench._block
        self._steps = bench._steps
        self._taken = bench._taken
        bench._block = self
        return bench

    def __exit__(self, kind, value, trace):
        bench = self.bench
        bench._block = self._outer
        if self.kept is None or kind is not None:
            bench._steps = self._steps
            bench._taken = self._taken


# What stands ahead of both lines and behind them leads no two words to one: so
# both sequences do the same in the circuit exactly if they do so by themselves.
def _pass_by(wires, line, other):
    """Whether two lines do the same in either sequence."""
    one = Circuit(f"wires {wires}\n{line}\n{other}")
    return same(one, Circuit(f"wires {wires}\n{other}\n{line}")) == SAME
