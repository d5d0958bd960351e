"""Frames one behind the other, and ears that find them again."""

from lineasks.errors import Full, NoBack, NoFrame
from lineasks.frames import is_frame
from lineasks.wholes import is_byte

MOST_FRAMES = 20
MOST_BYTES = 400


def are_frames(thing):
    """Whether any thing is a list or a tuple of frames that can be packed."""
    return isinstance(thing, (list, tuple)) and len(thing) <= MOST_FRAMES and all([is_frame(one) for one in thing])


def packed(frames):
    """All bytes of the frames, ahead of each frame a byte that tells how many it has."""
    if not are_frames(frames):
        raise NoFrame("not a list or a tuple of up to 20 frames")
    row = ()
    for frame in frames:
        row = (*row, len(frame), *frame)
    return row


def find_frames(came, place):
    """The frames with their spots from a place on, and the first place that is not decided yet."""
    found = ()
    while place < len(came):
        end = place + 1 + came[place]
        if not 2 <= came[place] <= 20:
            place += 1
        elif end > len(came):
            break
        elif is_frame(came[place + 1:end]):
            found = (*found, (place, came[place + 1:end]))
            place = end
        else:
            place += 1
    return found, place


class Ear:
    """An ear, which finds the frames in the bytes that came."""

    def __init__(self):
        # A state is what came, what was found, and the first place that is not
        # decided. The last one is that of now; one stands ahead of it for each
        # hear, and those that were taken back wait to come again, the last first.
        self.states = [((), (), 0)]
        self.taken_back = []

    def hear(self, some):
        """Some bytes come; a list of the frames that are found by them."""
        if not isinstance(some, (list, tuple)) or not all([is_byte(one) for one in some]):
            raise NoFrame("not a list or a tuple of bytes")
        came, found, place = self.states[-1]
        if len(came) + len(some) > MOST_BYTES:
            raise Full("more than 400 bytes")
        came = (*came, *some)
        # More bytes never change what is decided already.
        more, place = find_frames(came, place)
        self.states.append((came, found + more, place))
        self.taken_back = []
        return [frame for spot, frame in more]

    def frames(self):
        """A list of all frames that are found."""
        return [frame for spot, frame in self.states[-1][1]]

    def spots(self):
        """A list of the places of the bytes ahead of the frames."""
        return [spot for spot, frame in self.states[-1][1]]

    def undecided(self):
        """How many bytes are not decided yet."""
        came, found, place = self.states[-1]
        return len(came) - place

    def many(self):
        """How many bytes came."""
        return len(self.states[-1][0])

    def back(self):
        """What came by the last hear did not; how many bytes those were."""
        if len(self.states) == 1:
            raise NoBack("there is nothing to take back")
        ahead = self.many()
        self.taken_back.append(self.states.pop())
        return ahead - self.many()

    def forth(self):
        """What was taken back last comes again; how many bytes those are."""
        if not self.taken_back:
            raise NoBack("there is nothing to let come again")
        ahead = self.many()
        self.states.append(self.taken_back.pop())
        return self.many() - ahead

    def twin(self):
        """An ear that is as this one, and goes by itself from now on."""
        other = Ear()
        other.states = list(self.states)
        other.taken_back = list(self.taken_back)
        return other
