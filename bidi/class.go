package bidi

// Classes of runes, in the order of the document's table.
const (
	classB  = iota + 1 // ends a paragraph
	classS             // parts of a paragraph end at it
	classWS            // blanks
	classEN            // European digits
	classAN            // Arabic digits
	classES            // signs ahead of numbers
	classET            // what belongs to a number beside it
	classCS            // what parts a number's digits
	classLI            // opens an isolate that goes to the right
	classRI            // opens one that goes to the left
	classFI            // opens one that goes as its first letter does
	classPI            // closes an isolate
	classNM            // marks over others
	classAL            // Arabic letters
	classR             // other letters that go to the left
	classON            // other neutrals
	classL             // all others: they go to the right
)

// paragraphEnd is the one rune of class B.
const paragraphEnd rune = 0xA

// Class tells a rune's class.
func Class(r rune) int {
	// Some runes stand in several of the tables: the first one goes ahead.
	switch {
	case 'a' <= r && r <= 'z', 'A' <= r && r <= 'Z': // What most texts are made of need not be looked for.
		return classL
	case r == paragraphEnd:
		return classB
	case isPartEnd(r):
		return classS
	case isBlank(r):
		return classWS
	case isEuropeanDigit(r):
		return classEN
	case isArabicDigit(r):
		return classAN
	case isNumberSign(r):
		return classES
	case isBesideNumber(r):
		return classET
	case isWithinNumber(r):
		return classCS
	}
	return classOfOther(r)
}

// classOfOther tells the class of a rune that has to do with no number, and parts nothing.
func classOfOther(r rune) int {
	switch {
	case r == 0x2066:
		return classLI
	case r == 0x2067:
		return classRI
	case r == 0x2068:
		return classFI
	case r == 0x2069:
		return classPI
	case isMark(r):
		return classNM
	case isArabicLetter(r):
		return classAL
	case isLeftGoing(r):
		return classR
	case isNeutral(r):
		return classON
	}
	return classL
}

// kinds is a set of classes.
type kinds uint32

const (
	strong   kinds = 1<<classL | 1<<classR | 1<<classAL
	openers  kinds = 1<<classLI | 1<<classRI | 1<<classFI
	isolates kinds = openers | 1<<classPI
	partEnds kinds = 1<<classS | 1<<classB
	trailing kinds = 1<<classWS | isolates // goes with the end that it stands ahead of
	neutrals kinds = partEnds | trailing | 1<<classON
	allKinds kinds = 1<<(classL+1) - 1
)

func (k kinds) has(class int) bool { return k>>class&1 == 1 }
