// Package signal is layer 1: see shared/doc/01-signal.md.
package signal

// Limits of records and sequences.
const (
	MaxRate  = 192000
	MaxLevel = 1 << 20
	MaxPair  = 64
	MaxShift = 8
	Size     = 4
)

// steps is how many samples there are from 0 up to 1: a sample is a multiple of 1 / steps.
const steps = 16

// Record is samples with a name and a rate.
type Record struct {
	Name    string
	Rate    int
	Samples []float32
}

// Block is four samples.
type Block [Size]float32

// Spectrum is the transform of a block.
type Spectrum [Size]complex64
