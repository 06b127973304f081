package signal

import (
	"bytes"
	"math"

	"woofer/api"
	"woofer/common"
)

// The form of a stream.
const (
	mark        = "SNDR"
	markSize    = len(mark) + 1 // with the length of the name
	wordSize    = 4
	minusZero   = 1 << 31 // the bytes of -0 as a number
	bitsPerByte = 8
)

// Encode returns the stream of a record.
func Encode(r Record) ([]byte, api.Errno) {
	if e := CheckRecord(r); e != api.OK {
		return nil, e
	}
	out := append([]byte(mark), byte(len(r.Name)))
	out = append(out, r.Name...)
	out = appendWord(out, uint32(r.Rate))
	out = appendWord(out, uint32(len(r.Samples)))
	for _, x := range r.Samples {
		out = appendWord(out, wordOf(x))
	}
	return out, api.OK
}

// wordOf returns the four bytes of a sample as a number.
func wordOf(x float32) uint32 {
	if x == 0 { // and so is -0, which has other bytes
		return 0
	}
	return math.Float32bits(x)
}

// appendWord appends the four bytes of a number, the highest one first.
func appendWord(out []byte, word uint32) []byte {
	for i := range wordSize {
		shift := (wordSize - 1 - i) * bitsPerByte
		out = append(out, byte(word>>shift))
	}
	return out
}

// readWord returns the number of the first four bytes.
func readWord(s []byte) uint32 {
	word := uint32(0)
	for _, c := range s[:wordSize] {
		word = word<<bitsPerByte | uint32(c)
	}
	return word
}

// Decode returns the record of a stream.
func Decode(s []byte) (Record, api.Errno) {
	e := common.First(
		common.When(len(s) > api.MaxStream, api.ErrLong),
		common.When(len(s) < markSize, api.ErrTorn),
		common.When(!bytes.HasPrefix(s, []byte(mark)), api.ErrForm),
	)
	if e != api.OK {
		return Record{}, e
	}
	size := int(s[markSize-1])
	rest := s[markSize:]
	if len(rest) < size+2*wordSize {
		return Record{}, api.ErrTorn
	}
	name := string(rest[:size])
	rate := int(readWord(rest[size:]))
	count := int(readWord(rest[size+wordSize:]))
	samples, e := readSamples(rest[size+2*wordSize:], count)
	if e != api.OK {
		return Record{}, e
	}
	return checked(Record{Name: name, Rate: rate, Samples: samples})
}

// readSamples returns the samples of exactly so many words.
func readSamples(s []byte, count int) ([]float32, api.Errno) {
	e := common.First(
		common.When(len(s) < count*wordSize, api.ErrTorn),
		common.When(len(s) > count*wordSize, api.ErrShape),
	)
	if e != api.OK {
		return nil, e
	}
	samples := make([]float32, count)
	for i := range samples {
		word := readWord(s[i*wordSize:])
		if word == minusZero {
			return nil, api.ErrForm
		}
		samples[i] = math.Float32frombits(word)
	}
	return samples, api.OK
}
