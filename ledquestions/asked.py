"""Questions as objects that are equal where they are alike."""

from ledquestions.likeness import alike, least_form, lies_within
from ledquestions.questions import look_question
from ledquestions.texts import question_text


class Asked:
    """A question, equal to whatever Asked has one alike."""

    def __init__(self, question):
        look_question(question)
        self.question = question

    def __eq__(self, other):
        return isinstance(other, Asked) and alike(self.question, other.question)

    def __len__(self):
        return len(least_form(self.question)[1])

    def __str__(self):
        return str(question_text(self.question))

    def over(self, other):
        """Whether the other one's question lies within this one's."""
        return lies_within(other.question, self.question)
