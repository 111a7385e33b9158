package frame

import "inkwell/api"

const sumSize = 4

// appendVarints puts the varints of numbers from 0 on behind a list.
func appendVarints(list []byte, numbers ...int64) []byte {
	for _, n := range numbers {
		for n >= 128 {
			list = append(list, byte(n%128)+128)
			n /= 128
		}
		list = append(list, byte(n))
	}
	return list
}

func sum(list []byte) uint32 {
	s := uint32(2166136261)
	for _, b := range list {
		s = (s ^ uint32(b)) * 16777619
	}
	return s
}

// seal makes a datagram of bytes: their sum stands behind them.
func seal(list []byte) string {
	s := sum(list)
	return string(append(list, byte(s>>24), byte(s>>16), byte(s>>8), byte(s)))
}

// unseal gives the bytes of a datagram ahead of the sum, and whether its length and its sum are right.
func unseal(datagram string) (string, bool) {
	// The length is looked at first, so that a long datagram costs no work.
	if len(datagram) > api.MaxDatagram || len(datagram) < sumSize {
		return "", false
	}
	inner := datagram[:len(datagram)-sumSize]
	return inner, seal([]byte(inner)) == datagram
}
