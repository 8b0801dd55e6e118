"""Images: texts of all that machines are, of which no beginning but the whole is taken."""

from latekinds.errors import BadText, NothingWhole
from latekinds.imaging import course_lines, sum_of
from latekinds.machines import Machine
from latekinds.programs import check_program
from latekinds.reading import Reading, read_counts, read_held, read_kind, read_object, read_row, read_sum


def image(machine):
    """The text of all that the machine is, but for what can be taken back."""
    text = "".join([line + "\n" for line in course_lines(machine.course)])
    return f"{text}sum {sum_of(text)}\n"


def restored(program, text):
    """The machine that the text tells, with nothing to be taken back."""
    check_program(program)
    if not isinstance(text, str):
        raise BadText(0)
    machine = Machine(program)
    course = machine.course
    reading = Reading(text)
    read_counts(reading)
    for _ in range(reading.many_kinds):
        read_kind(reading, course.world)
    for _ in range(reading.many_objects):
        read_object(reading, course.world)
    read_row(reading, course)
    course.seen = reading.values_behind("shown")
    read_held(reading, course)
    read_sum(reading)
    reading.check_closed()
    return machine


def recovered(program, older, newer):
    """The machine of the newer text, or of the older one if the newer one is not whole."""
    check_program(program)
    for text in (newer, older):
        try:
            return restored(program, text)
        except BadText:
            pass
    raise NothingWhole()
