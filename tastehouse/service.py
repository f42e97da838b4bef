"""A service: a run under way that is told how each of its deeds went, of sound houses ([71], [72])."""

from tastehouse.course import Course
from tastehouse.errors import NoTruth, NotDue
from tastehouse.faults import refuse_not_sound
from tastehouse.refusals import refuse_no_deed
from tastehouse.runs import refuse_no_often
from tastehouse.turns import refuse_no_order


class Service:
    """A run of an order that goes as it is told, can be stopped, and of which each deed can be undone."""

    def __init__(self, house, order, often):
        refuse_not_sound(house)
        refuse_no_order(house, order)
        refuse_no_often(often)
        self.course = Course(house, order, often)
        self.stopped = False
        self.past = []

    def due(self):
        """The deed that is due, or None where all is over."""
        return self.course.due()

    def went(self, well):
        """It is told whether the deed that is due went well."""
        if well is not True and well is not False:
            raise NoTruth("this is neither True nor False")
        self.refuse_all_over()
        self.keep_past()
        self.course.went(well)

    def undo(self):
        """The last deed that was told, or the stop, is undone."""
        refuse_no_deed(self.past)
        state, self.stopped = self.past.pop()
        self.course.put_back(state)

    def stop(self):
        """No turn behind the one that it has come to is had."""
        self.refuse_all_over()
        if self.stopped:
            raise NotDue("the service is stopped already")
        self.keep_past()
        self.stopped = True
        self.course.leave_others()

    def list_so_far(self):
        """The list of what was done so far."""
        return list(self.course.done)

    def stands(self):
        """The tuple of the pots that stand, in the order in which they were cooked."""
        return tuple(self.course.standing)

    def came_so_far(self):
        """The tuple with for each turn "good", "bad", "missed", "left" or "ahead"."""
        return tuple(self.course.came)

    def refuse_all_over(self):
        """Refuses a deed where nothing is due any more."""
        if self.due() is None:
            raise NotDue("all is over")

    def keep_past(self):
        """What is so ahead of a deed is kept, for the deed may be undone."""
        self.past.append((self.course.state(), self.stopped))
