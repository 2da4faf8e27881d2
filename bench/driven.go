package bench

import (
	"umlaut/api"
	"umlaut/ship"
)

// clean tells what a kind of machine makes of bytes.
func clean(kind int, x []byte) string {
	out, e := ship.Clean(kind, x)
	if e != api.OK {
		return rejected
	}
	return tellBytes(out)
}

// open opens a new driver of a kind.
func (b *Bench) open(kind int) string {
	// Of a kind there always is one.
	b.driver, _ = ship.Open(kind)
	b.written = nil
	return done
}

// write hands bytes to the driver that is open.
func (b *Bench) write(x []byte) string {
	if b.driver == nil {
		return closed
	}
	// If it rejects now it does so as it is closed, too.
	out, _ := b.driver.Write(x)
	b.written = append(b.written, out...)
	return done
}

// close closes the driver that is open, and tells all that it wrote.
func (b *Bench) close() string {
	if b.driver == nil {
		return closed
	}
	end, e := b.driver.Close()
	all := append(b.written, end...)
	b.driver, b.written = nil, nil
	if e != api.OK {
		return rejected
	}
	return tellBytes(all)
}
