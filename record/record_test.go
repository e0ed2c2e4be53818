package record

import (
	"bytes"
	"encoding/binary"
	"encoding/hex"
	"hash/crc32"
	"math"
	"slices"
	"testing"

	"usufruct/api"
)

const most = 65536 // bytes of a payload

// mixer draws numbers by a rule, the same ones each time.
type mixer uint64

func (m *mixer) below(n int) int {
	*m = *m*6364136223846793005 + 1442695040888963407
	return int(uint64(*m)>>33) % n
}

func (m *mixer) row(size int) []byte {
	row := make([]byte, size)
	for i := range row {
		row[i] = byte(m.below(256))
	}
	return row
}

// mixed is a row of that many bytes, of all kinds.
func mixed(size, seed int) []byte {
	m := mixer(seed)
	return m.row(size)
}

// head is a row for a message, cut where it is long.
func head(b []byte) []byte {
	return b[:min(len(b), 24)]
}

// overwrite writes over an answer and over all the memory behind it.
func overwrite(b []byte) {
	b = b[:cap(b)]
	for i := range b {
		b[i] ^= 0xa5
	}
	_ = append(b, 0xa5)
}

// four are a number's four bytes, the highest first.
func four(n uint32) []byte {
	return binary.BigEndian.AppendUint32(nil, n)
}

// sumOf is the sum of bytes, by another's program, in four bytes.
func sumOf(b []byte) []byte {
	return four(crc32.ChecksumIEEE(b))
}

// headOf is the head of a form that tells that length, whose sum is right.
func headOf(length uint32) []byte {
	return slices.Concat([]byte{0x5a}, four(length), sumOf(four(length)))
}

// formOf is a payload's form as the chapter's words say it, however long it is.
func formOf(payload []byte) []byte {
	return slices.Concat(headOf(uint32(len(payload))), payload, sumOf(payload))
}

// rowOf are forms one behind the other.
func rowOf(payloads ...[]byte) []byte {
	var row []byte
	for _, p := range payloads {
		row = append(row, formOf(p)...)
	}
	return row
}

// getByWords is Get as the chapter's words say it, error by error.
func getByWords(b []byte, at int) ([]byte, int, api.Errno) {
	if at < 0 || at > len(b) {
		return nil, 0, api.ErrArg
	}
	left := b[at:]
	if len(left) >= 1 && left[0] != 0x5a {
		return nil, 0, api.ErrForm
	}
	if len(left) < 9 {
		return nil, 0, api.ErrShort
	}
	if !bytes.Equal(sumOf(left[1:5]), left[5:9]) {
		return nil, 0, api.ErrSum
	}
	length := int(binary.BigEndian.Uint32(left[1:5]))
	if length > 65536 {
		return nil, 0, api.ErrLarge
	}
	if len(left) < 9+length+4 {
		return nil, 0, api.ErrShort
	}
	payload := left[9 : 9+length]
	if !bytes.Equal(sumOf(payload), left[9+length:9+length+4]) {
		return nil, 0, api.ErrSum
	}
	return payload, 9 + length + 4, api.OK
}

// allByWords is All as the chapter's words say it.
func allByWords(b []byte) ([][]byte, int, api.Errno) {
	var l [][]byte
	at := 0
	for {
		payload, n, e := getByWords(b, at)
		if e != api.OK && at == len(b) {
			return l, at, api.OK
		}
		if e == api.ErrShort {
			return l, at, api.ErrShort
		}
		if e != api.OK {
			return l, at, api.ErrTorn
		}
		l = append(l, payload)
		at += n
	}
}

// wantGet asks for that answer, and that the bytes stay as they were.
func wantGet(t *testing.T, what string, b []byte, at int, payload []byte, n int, e api.Errno) {
	t.Helper()
	was := bytes.Clone(b)
	gotPayload, gotN, gotE := Get(b, at)
	if !bytes.Equal(gotPayload, payload) || gotN != n || gotE != e {
		t.Errorf("%s: Get(%d bytes %x, %d) = %d bytes %x, %d, %d, not %d bytes %x, %d, %d", what, len(b), head(b), at,
			len(gotPayload), head(gotPayload), gotN, gotE, len(payload), head(payload), n, e)
	}
	if !bytes.Equal(b, was) {
		t.Errorf("%s: Get(%d bytes %x, %d) left %x", what, len(was), head(was), at, head(b))
	}
}

// wantNone asks for an error, beside which there is no payload, and 0.
func wantNone(t *testing.T, what string, b []byte, at int, e api.Errno) {
	t.Helper()
	wantGet(t, what, b, at, nil, 0, e)
}

// checkGet holds Get against the words.
func checkGet(t *testing.T, what string, b []byte, at int) {
	t.Helper()
	payload, n, e := getByWords(b, at)
	wantGet(t, what, b, at, payload, n, e)
}

// wantAll asks for that answer, and that the bytes stay as they were.
func wantAll(t *testing.T, what string, b []byte, l [][]byte, whole int, e api.Errno) {
	t.Helper()
	was := bytes.Clone(b)
	gotL, gotWhole, gotE := All(b)
	if !slices.EqualFunc(gotL, l, bytes.Equal) || gotWhole != whole || gotE != e {
		t.Errorf("%s: All(%d bytes %x) = %d payloads, %d, %d, not %d, %d, %d", what, len(b), head(b), len(gotL), gotWhole, gotE, len(l), whole, e)
	}
	if !bytes.Equal(b, was) {
		t.Errorf("%s: All(%d bytes %x) left %x", what, len(was), head(was), head(b))
	}
}

// checkAll holds All against the words.
func checkAll(t *testing.T, what string, b []byte) {
	t.Helper()
	l, whole, e := allByWords(b)
	wantAll(t, what, b, l, whole, e)
}

// somePayloads are payloads of each short length, at the edges, and such as look like parts of forms.
func somePayloads() [][]byte {
	l := [][]byte{nil, {}, {0x5a}, bytes.Repeat([]byte{0x5a}, 13), formOf(nil), formOf([]byte("saga")), headOf(3), headOf(most + 1)}
	for size := range 20 {
		l = append(l, mixed(size, size), make([]byte, size), bytes.Repeat([]byte{0xff}, size))
	}
	for _, size := range []int{255, 256, 257, 4096, 65535, most} {
		l = append(l, mixed(size, size))
	}
	return l
}

// P6.1: Put at what is known, by its bytes.
func TestPutKnown(t *testing.T) {
	for _, c := range []struct{ payload, form string }{
		{"", "5a" + "00000000" + "2144df1c" + "" + "00000000"},
		{"a", "5a" + "00000001" + "5643ef8a" + "61" + "e8b7be43"},
		{"\x00", "5a" + "00000001" + "5643ef8a" + "00" + "d202ef8d"},
		{"\xff", "5a" + "00000001" + "5643ef8a" + "ff" + "ff000000"},
		{"123456789", "5a" + "00000009" + "589867b8" + "313233343536373839" + "cbf43926"},
	} {
		got, e := Put([]byte(c.payload))
		if hex.EncodeToString(got) != c.form || e != api.OK {
			t.Errorf("Put(%x) = %x, %d, not %s", c.payload, got, e, c.form)
		}
	}
}

// P6.1: Put at nothing, each single byte, many payloads and the greatest one: the form, byte by byte.
func TestPut(t *testing.T) {
	payloads := somePayloads()
	for b := range 256 {
		payloads = append(payloads, []byte{byte(b)})
	}
	for _, p := range payloads {
		got, e := Put(p)
		if e != api.OK || !bytes.Equal(got, formOf(p)) {
			t.Errorf("Put(%d bytes %x) = %d bytes %x, %d", len(p), head(p), len(got), head(got), e)
		}
	}
	got, e := Put(mixed(most, 1))
	if len(got) != 65549 || e != api.OK || !bytes.Equal(got[:5], []byte{0x5a, 0, 1, 0, 0}) {
		t.Errorf("Put of %d bytes = %d bytes %x, %d", most, len(got), head(got), e)
	}
}

// P6.1: Put at a payload that is too long.
func TestPutLarge(t *testing.T) {
	for _, size := range []int{most + 1, most + 2, 2 * most, 1 << 24, 1<<24 + 1} {
		if got, e := Put(make([]byte, size)); len(got) != 0 || e != api.ErrLarge {
			t.Errorf("Put of %d bytes = %d bytes, %d", size, len(got), e)
		}
	}
}

// P6.1: Size at each length that there is, and at the edges beyond, against what Put answers.
func TestSize(t *testing.T) {
	for n := range most + 1 {
		if got := Size(n); got != n+13 {
			t.Fatalf("Size(%d) = %d", n, got)
		}
	}
	for _, n := range []int{0, 1, 2, 255, 256, most - 1, most} {
		if form, _ := Put(make([]byte, n)); Size(n) != len(form) {
			t.Errorf("Size(%d) = %d, and the form has %d bytes", n, Size(n), len(form))
		}
	}
	for _, n := range []int{math.MinInt, math.MinInt + 1, -1 << 32, -most, -14, -13, -12, -1, most + 1, most + 2, 1 << 24, 1 << 32, 1<<32 + 1, 1<<62 + 7, math.MaxInt - 13, math.MaxInt - 1, math.MaxInt} {
		if got := Size(n); got != 0 {
			t.Errorf("Size(%d) = %d", n, got)
		}
	}
}

// P6.1: Get at a right record, alone, behind other bytes, and ahead of any.
func TestGet(t *testing.T) {
	for _, p := range somePayloads() {
		form := formOf(p)
		wantGet(t, "alone", form, 0, p, len(p)+13, api.OK)
		for _, other := range [][]byte{{0}, {0x5a}, formOf(nil), formOf([]byte("other")), mixed(30, 2)} {
			wantGet(t, "behind others", slices.Concat(other, form), len(other), p, len(p)+13, api.OK)
			wantGet(t, "ahead of others", slices.Concat(form, other), 0, p, len(p)+13, api.OK)
		}
	}
}

// P6.1: what is put is got, and the other way.
func TestPutAndGet(t *testing.T) {
	for _, p := range somePayloads() {
		form, _ := Put(p)
		wantGet(t, "put", form, 0, p, Size(len(p)), api.OK)
		got, _, _ := Get(form, 0)
		if again, e := Put(got); e != api.OK || !bytes.Equal(again, form) {
			t.Errorf("put again: %d bytes %x, %d", len(again), head(again), e)
		}
	}
}

// P6.1 and the chapter's example: Get of nothing.
func TestGetOfNothing(t *testing.T) {
	for _, none := range [][]byte{nil, {}, formOf(nil)[:0]} {
		wantNone(t, "nothing", none, 0, api.ErrShort)
		for _, at := range []int{math.MinInt, -1, 1, 2, math.MaxInt} {
			wantNone(t, "nothing", none, at, api.ErrArg)
		}
	}
}

// P6.1: Get at each place of a row: where records stand, in their midst, at the end; and at none.
func TestGetPlaces(t *testing.T) {
	row := rowOf([]byte("first"), nil, []byte("\x5a\x5a\x5a"), formOf([]byte("within")), []byte{0})
	for at := -30; at <= len(row)+30; at++ {
		checkGet(t, "place", row, at)
	}
	wantGet(t, "first", row, 0, []byte("first"), 18, api.OK)
	wantNone(t, "midst", row, 1, api.ErrForm)
	wantGet(t, "second", row, 18, nil, 13, api.OK)
	wantGet(t, "third", row, 31, []byte("\x5a\x5a\x5a"), 16, api.OK)
	wantNone(t, "in the third's payload", row, 40, api.ErrSum)
	wantGet(t, "within the fourth", row, 47+9, []byte("within"), 19, api.OK)
	wantNone(t, "at the end", row, len(row), api.ErrShort)
	for _, at := range []int{math.MinInt, math.MinInt + 1, -1 << 32, -len(row), -2, -1, len(row) + 1, len(row) + 2, 1 << 32, 1<<32 + 18, math.MaxInt - 8, math.MaxInt} {
		wantNone(t, "no place", row, at, api.ErrArg)
	}
}

// P6.1: Get at each first byte that isn't 5a, with few and with many bytes behind it.
func TestGetForm(t *testing.T) {
	whole := formOf([]byte("payload"))
	for first := range 256 {
		if first == 0x5a {
			continue
		}
		for _, left := range []int{1, 2, 8, 9, 10, 12, len(whole) - 1, len(whole)} {
			turned := bytes.Clone(whole)
			turned[0] = byte(first)
			wantNone(t, "another first byte", turned[:left], 0, api.ErrForm)
			wantNone(t, "another first byte in the midst", slices.Concat(whole, turned[:left]), len(whole), api.ErrForm)
		}
	}
	wantNone(t, "many of 0", make([]byte, most+100), 0, api.ErrForm)
}

// P6.1: Get at one to eight bytes that begin well, whatever stands in them.
func TestGetShortHead(t *testing.T) {
	for left := 1; left <= 8; left++ {
		for _, like := range [][]byte{formOf(nil), formOf([]byte("saga")), headOf(most + 1), headOf(math.MaxUint32), bytes.Repeat([]byte{0x5a}, 9), append([]byte{0x5a}, mixed(9, left)...)} {
			wantNone(t, "short head", like[:left], 0, api.ErrShort)
			wantNone(t, "short head", bytes.Clone(like[:left]), 0, api.ErrShort)
			wantNone(t, "short head behind a record", append(formOf([]byte("x")), like[:left]...), 14, api.ErrShort)
		}
	}
}

// P6.1: Get at a length whose sum is another one: each bit of it turned, its bytes the other way, the sum of other bytes.
func TestGetLengthSum(t *testing.T) {
	for _, length := range []uint32{0, 1, 4, 255, 256, most, most + 1, 1 << 24, math.MaxUint32} {
		own := crc32.ChecksumIEEE(four(length))
		others := []uint32{^own, own + 1, own - 1, crc32.ChecksumIEEE(headOf(length)[:5])}
		for bit := range 32 {
			others = append(others, own^1<<bit)
		}
		for _, other := range others {
			b := slices.Concat([]byte{0x5a}, four(length), four(other))
			wantNone(t, "another sum of the length", b, 0, api.ErrSum)
			wantNone(t, "another sum of the length", append(b, mixed(40, 3)...), 0, api.ErrSum)
		}
		turned := headOf(length)
		slices.Reverse(turned[5:])
		checkGet(t, "the sum's lowest byte first", turned, 0)
	}
}

// P6.1: Get at a length above the greatest whose sum is right, whatever is there behind it.
func TestGetLarge(t *testing.T) {
	for _, length := range []uint32{most + 1, most + 2, 2 * most, 1 << 24, 1<<24 + 4, 1<<31 - 1, 1 << 31, 1<<31 + 4, math.MaxUint32 - 12, math.MaxUint32 - 3, math.MaxUint32} {
		wantNone(t, "too great", headOf(length), 0, api.ErrLarge)
		wantNone(t, "too great", append(headOf(length), mixed(100, 4)...), 0, api.ErrLarge)
	}
	for _, size := range []int{most + 1, most + 2, 1 << 20} {
		form := formOf(mixed(size, 5))
		wantNone(t, "too great and all there", form, 0, api.ErrLarge)
		form[len(form)-1] ^= 1
		wantNone(t, "too great and another sum", form, 0, api.ErrLarge)
	}
	wantGet(t, "the greatest", formOf(mixed(most, 5)), 0, mixed(most, 5), most+13, api.OK)
}

// P6.1: Get at a form that is cut off behind its ninth byte, anywhere.
func TestGetCut(t *testing.T) {
	for _, p := range [][]byte{nil, {7}, []byte("saga"), formOf([]byte("within")), mixed(300, 6)} {
		form := formOf(p)
		for left := 9; left < len(form); left++ {
			wantNone(t, "cut off", form[:left], 0, api.ErrShort)
			wantNone(t, "cut off", bytes.Clone(form[:left]), 0, api.ErrShort)
		}
	}
	form := formOf(mixed(most, 7))
	for _, left := range []int{9, 10, 13, most, most + 8, most + 9, most + 10, most + 12} {
		wantNone(t, "the greatest cut off", form[:left], 0, api.ErrShort)
	}
}

// P6.1: Get at a payload whose sum is another one: each bit of it turned, its bytes the other way, the length taken into it.
func TestGetPayloadSum(t *testing.T) {
	for _, p := range [][]byte{nil, {7}, []byte("saga"), mixed(300, 8), mixed(most, 9)} {
		own := crc32.ChecksumIEEE(p)
		others := []uint32{^own, own + 1, own - 1, crc32.ChecksumIEEE(slices.Concat(headOf(uint32(len(p))), p)), crc32.ChecksumIEEE(slices.Concat(four(uint32(len(p))), p))}
		for bit := range 32 {
			others = append(others, own^1<<bit)
		}
		for _, other := range others {
			b := slices.Concat(headOf(uint32(len(p))), p, four(other))
			wantNone(t, "another sum of the payload", b, 0, api.ErrSum)
			wantNone(t, "another sum of the payload", append(b, four(own)...), 0, api.ErrSum)
		}
	}
	turned := formOf([]byte("saga"))
	slices.Reverse(turned[13:])
	wantNone(t, "the sum's lowest byte first", turned, 0, api.ErrSum)
}

// fault is something wrong in a form, and the error by which it is told.
type fault struct {
	e     api.Errno
	spoil func(form []byte) []byte
}

// faults are all of them, the last one that is looked for first: so that a cut comes behind what is turned in what it takes away.
func faults() []fault {
	return []fault{
		{api.ErrSum, func(form []byte) []byte { form[len(form)-1] ^= 0x10; return form }},
		{api.ErrShort, func(form []byte) []byte { return form[:len(form)-1] }},
		{api.ErrLarge, func(form []byte) []byte { copy(form, headOf(most+1)); return form }},
		{api.ErrSum, func(form []byte) []byte { form[8] ^= 0x10; return form }},
		{api.ErrShort, func(form []byte) []byte { return form[:8] }},
		{api.ErrForm, func(form []byte) []byte { form[0] ^= 0x10; return form }},
	}
}

// P6.1 and R2: where several errors hold, the first one: each set of faults in one form.
func TestOrderOfErrors(t *testing.T) {
	for set := range 64 {
		form, payload, n, e := formOf([]byte("saga")), []byte("saga"), 17, api.OK
		for i, f := range faults() {
			if set>>i&1 == 1 {
				form, payload, n, e = f.spoil(form), nil, 0, f.e
			}
		}
		wantGet(t, "several faults", form, 0, payload, n, e)
		wantGet(t, "several faults behind others", slices.Concat([]byte{0, 0x5a}, form), 2, payload, n, e)
		wantNone(t, "several faults and a place below", form, -1, api.ErrArg)
		wantNone(t, "several faults and a place above", form, len(form)+1, api.ErrArg)
	}
}

// P6.1 and R4: what Put is given stays, what lies behind its end too, and the form is new memory.
func TestPutMemory(t *testing.T) {
	room := mixed(64, 10)
	was := bytes.Clone(room)
	for size := range 40 {
		form, _ := Put(room[:size])
		again, _ := Put(room[:size])
		overwrite(form)
		if !bytes.Equal(room, was) || !bytes.Equal(again, formOf(was[:size])) {
			t.Fatalf("the form of %d bytes is not its own: %x, %x", size, room, again)
		}
	}
	payload := []byte("saga")
	form, _ := Put(payload)
	overwrite(payload)
	if !bytes.Equal(form, formOf([]byte("saga"))) {
		t.Errorf("the form changed with its payload: %x", form)
	}
	if again, _ := Put([]byte("saga")); !bytes.Equal(again, form) {
		t.Errorf("put again: %x", again)
	}
}

// P6.1 and R4: the payload that Get tells is new memory, also where bytes lie behind it.
func TestGetMemory(t *testing.T) {
	for _, p := range [][]byte{nil, {1}, []byte("saga"), mixed(100, 11)} {
		row := rowOf([]byte("ahead"), p, []byte("behind"))
		was := bytes.Clone(row)
		got, n, _ := Get(row, 18)
		again, _, _ := Get(row, 18)
		overwrite(got)
		if !bytes.Equal(row, was) || !bytes.Equal(again, p) || n != len(p)+13 {
			t.Errorf("the payload %x is not its own: %x, %x", head(p), row, again)
		}
		wantGet(t, "again", row, 18, p, n, api.OK)
		overwrite(row)
		if !bytes.Equal(again, p) {
			t.Errorf("the payload changed with the row: %x, not %x", again, p)
		}
	}
}

// R4: bytes behind a row's length are not read: a form that goes on there isn't all there.
func TestBehindTheEnd(t *testing.T) {
	row := rowOf([]byte("first"), []byte("second"))
	for size := range len(row) {
		part, alone := row[:size], bytes.Clone(row[:size])
		for at := -1; at <= size+1; at++ {
			payload, n, e := getByWords(alone, at)
			wantGet(t, "with room behind", part, at, payload, n, e)
		}
		l, whole, e := allByWords(alone)
		wantAll(t, "with room behind", part, l, whole, e)
	}
}

// P6.2: All at nothing, at one record, at several, at empty payloads.
func TestAll(t *testing.T) {
	wantAll(t, "nothing", nil, nil, 0, api.OK)
	wantAll(t, "nothing", []byte{}, nil, 0, api.OK)
	wantAll(t, "one empty", formOf(nil), [][]byte{nil}, 13, api.OK)
	wantAll(t, "three empty", rowOf(nil, nil, nil), [][]byte{nil, nil, nil}, 39, api.OK)
	for _, p := range somePayloads() {
		wantAll(t, "one", formOf(p), [][]byte{p}, len(p)+13, api.OK)
		wantAll(t, "three", rowOf(nil, p, []byte("x")), [][]byte{nil, p, []byte("x")}, len(p)+40, api.OK)
	}
	all := somePayloads()
	size := 0
	for _, p := range all {
		size += len(p) + 13
	}
	wantAll(t, "many", rowOf(all...), all, size, api.OK)
}

// rests are rows of bytes at whose beginning no whole record stands, with what All tells of them.
func rests() []struct {
	what string
	b    []byte
	e    api.Errno
} {
	otherSum := formOf([]byte("rest"))
	otherSum[len(otherSum)-1] ^= 1
	otherPayload := formOf([]byte("rest"))
	otherPayload[9] ^= 1
	otherLength := formOf([]byte("rest"))
	otherLength[4] ^= 1
	otherFirst := formOf([]byte("rest"))
	otherFirst[0] = 0x5b
	return []struct {
		what string
		b    []byte
		e    api.Errno
	}{
		{"a first byte", []byte{0x5a}, api.ErrShort},
		{"eight bytes", headOf(4)[:8], api.ErrShort},
		{"a head alone", headOf(4), api.ErrShort},
		{"a head alone of nothing", headOf(0), api.ErrShort},
		{"a head alone of the greatest", headOf(most), api.ErrShort},
		{"a form without its last byte", formOf([]byte("rest"))[:16], api.ErrShort},
		{"another first byte", otherFirst, api.ErrTorn},
		{"another first byte alone", []byte{0}, api.ErrTorn},
		{"another sum of the length", otherLength, api.ErrTorn},
		{"another sum of the length alone", otherLength[:9], api.ErrTorn},
		{"another payload", otherPayload, api.ErrTorn},
		{"another sum", otherSum, api.ErrTorn},
		{"too great a length", headOf(most + 1), api.ErrTorn},
		{"too great a length with all behind it", formOf(mixed(most+1, 12)), api.ErrTorn},
		{"the greatest length that can be told", headOf(math.MaxUint32), api.ErrTorn},
	}
}

// P6.2: All at rows whose rest is short, or torn, with none, one or several records ahead, and with right records behind what is torn.
func TestAllRest(t *testing.T) {
	for _, ahead := range [][][]byte{nil, {nil}, {[]byte("first")}, {[]byte("first"), nil, mixed(300, 13)}} {
		whole := rowOf(ahead...)
		for _, rest := range rests() {
			row := slices.Concat(whole, rest.b)
			wantAll(t, rest.what, row, ahead, len(whole), rest.e)
			wantAll(t, rest.what+" again", row, ahead, len(whole), rest.e)
			if rest.e == api.ErrTorn && len(rest.b) >= 9 {
				wantAll(t, rest.what+" and a record behind", append(row, formOf([]byte("behind"))...), ahead, len(whole), api.ErrTorn)
			}
		}
	}
}

// P6.2: the rest is read by the head that begins it, whatever stands behind: a head that asks for more than there is makes it short, one that asks for what another record has makes it torn.
func TestAllRestTakesWhatIsBehind(t *testing.T) {
	first, behind := formOf([]byte("first")), formOf([]byte("behind"))
	for length := range uint32(60) {
		e := api.ErrTorn
		if int(length) > len(behind)-4 {
			e = api.ErrShort
		}
		wantAll(t, "a head ahead of a record", slices.Concat(first, headOf(length), behind), [][]byte{[]byte("first")}, 18, e)
	}
}

// P6.2 and R4: each payload that All tells is new memory, and so is the list.
func TestAllMemory(t *testing.T) {
	payloads := [][]byte{[]byte("first"), nil, []byte("third"), {}, mixed(50, 14), []byte("last")}
	row := append(rowOf(payloads...), 0x5a)
	was := bytes.Clone(row)
	for i := range payloads {
		l, _, _ := All(row)
		again, _, _ := All(row)
		overwrite(l[i])
		l[i] = slices.Grow(l[i][:0], 1)
		for j := range l {
			if j != i && !bytes.Equal(l[j], payloads[j]) {
				t.Errorf("payload %d changed with payload %d: %x", j, i, l[j])
			}
		}
		if !bytes.Equal(row, was) || !slices.EqualFunc(again, payloads, bytes.Equal) {
			t.Fatalf("payload %d is not its own: %x", i, row)
		}
		l = append(l, []byte("more"))
		clear(l)
		wantAll(t, "again", row, payloads, len(row)-1, api.ErrShort)
	}
	l, _, _ := All(row)
	overwrite(row)
	if !slices.EqualFunc(l, payloads, bytes.Equal) {
		t.Errorf("payloads changed with the row: %q", l)
	}
}

// put puts payloads one behind the other, by Put; and tells where each one's form ends.
func put(t *testing.T, payloads [][]byte) (row []byte, ends []int) {
	t.Helper()
	for _, p := range payloads {
		form, e := Put(p)
		if e != api.OK || len(form) != Size(len(p)) {
			t.Fatalf("Put(%d bytes %x) = %d bytes, %d", len(p), head(p), len(form), e)
		}
		row = append(row, form...)
		ends = append(ends, len(row))
	}
	return row, ends
}

// severalRows are rows of payloads, short ones and drawn ones.
func severalRows() [][][]byte {
	rows := [][][]byte{
		nil, {nil}, {nil, nil}, {[]byte("a")}, {[]byte("first"), nil, []byte("third")},
		{formOf([]byte("within")), {0x5a}, headOf(5)[:8], headOf(5), nil, headOf(most + 1)},
		{make([]byte, 9), make([]byte, 4), bytes.Repeat([]byte{0x5a}, 30)},
	}
	m := mixer(15)
	for range 12 {
		var l [][]byte
		for range m.below(6) {
			l = append(l, m.row(m.below(30)))
		}
		rows = append(rows, l)
	}
	return rows
}

// P6.3: what was put one behind the other is read as it was, all at once and one by one.
func TestPutIsRead(t *testing.T) {
	for _, payloads := range append(severalRows(), somePayloads()) {
		row, ends := put(t, payloads)
		wantAll(t, "put", row, payloads, len(row), api.OK)
		at := 0
		for i, p := range payloads {
			wantGet(t, "put", row, at, p, ends[i]-at, api.OK)
			at = ends[i]
		}
		wantNone(t, "behind the last", row, at, api.ErrShort)
	}
}

// P6.3: cut off at every place, those that are whole are read, and the rest, where there is one, is ErrShort.
func TestCutAnywhere(t *testing.T) {
	for _, payloads := range severalRows() {
		row, ends := put(t, payloads)
		for size := range len(row) + 1 {
			whole, count := 0, 0
			for _, end := range ends {
				if end <= size {
					whole, count = end, count+1
				}
			}
			e := api.ErrShort
			if whole == size {
				e = api.OK
			}
			wantAll(t, "cut off", row[:size], payloads[:count], whole, e)
			wantNone(t, "cut off", row[:size], whole, api.ErrShort)
		}
	}
}

// P6.3: a row with the greatest payloads, cut off at the places beside each part of a form.
func TestCutLong(t *testing.T) {
	payloads := [][]byte{mixed(most, 16), mixed(most, 17)}
	row, ends := put(t, payloads)
	for _, by := range []int{1, 2, 3, 4, 5, most, most + 3, most + 4, most + 5, most + 12} {
		wantAll(t, "cut off", row[:ends[1]-by], payloads[:1], ends[0], api.ErrShort)
		wantAll(t, "cut off", row[:ends[0]-by], nil, 0, api.ErrShort)
	}
}

// P6.3: each byte of a form turned, one at a time, in every way, makes it none: with records ahead and behind, which stay or are no more read.
func TestTurned(t *testing.T) {
	for _, p := range [][]byte{nil, {0}, {0x5a}, []byte("saga"), make([]byte, 20), bytes.Repeat([]byte{0xff}, 20), formOf([]byte("within"))} {
		form, _ := Put(p)
		ahead, behind := formOf([]byte("ahead")), formOf([]byte("behind"))
		row := slices.Concat(ahead, form, behind)
		for at := range form {
			for turn := 1; turn < 256; turn++ {
				row[len(ahead)+at] ^= byte(turn)
				e := api.ErrSum
				if at == 0 {
					e = api.ErrForm
				}
				wantNone(t, "turned", row, len(ahead), e)
				wantNone(t, "turned and alone", row[len(ahead):len(ahead)+len(form)], 0, e)
				wantAll(t, "turned", row, [][]byte{[]byte("ahead")}, len(ahead), api.ErrTorn)
				wantAll(t, "turned and alone", row[len(ahead):len(ahead)+len(form)], nil, 0, api.ErrTorn)
				row[len(ahead)+at] ^= byte(turn)
			}
		}
		wantAll(t, "turned back", row, [][]byte{[]byte("ahead"), p, []byte("behind")}, len(row), api.OK)
	}
}

// P6.3: a byte turned in the greatest form.
func TestTurnedLong(t *testing.T) {
	form := formOf(mixed(most, 18))
	for _, at := range []int{0, 1, 2, 4, 5, 8, 9, 10, 1000, most / 2, most + 8, most + 9, most + 12} {
		for _, turn := range []byte{1, 0x80, 0xff} {
			form[at] ^= turn
			wantAll(t, "turned", form, nil, 0, api.ErrTorn)
			form[at] ^= turn
		}
	}
}

// spoil turns, cuts, grows or doubles something of a row, as it is drawn.
func spoil(m *mixer, row []byte) []byte {
	at := m.below(len(row) + 1)
	switch m.below(5) {
	case 0:
		return row[:at]
	case 1:
		return slices.Insert(row, at, byte(m.below(256)))
	case 2:
		return slices.Concat(row[:at], headOf(uint32(m.below(most+3))), row[at:])
	case 3:
		return slices.Concat(row[:at], row)
	}
	if at < len(row) {
		row[at] ^= byte(1 << m.below(8))
	}
	return row
}

// P6.1, P6.2, P1 and R8: drawn rows, spoilt in drawn ways, at each place, against the words, twice.
func TestDrawn(t *testing.T) {
	m := mixer(19)
	for range 600 {
		var row []byte
		for range m.below(5) {
			row = append(row, formOf(m.row(m.below(12)))...)
		}
		for range m.below(4) {
			row = spoil(&m, row)
		}
		for range 2 {
			for at := -1; at <= len(row)+1; at++ {
				checkGet(t, "drawn", row, at)
			}
			checkAll(t, "drawn", row)
		}
	}
}

// P1: any bytes at all, and long rows, end without a panic and with what the words say.
func TestAnyBytes(t *testing.T) {
	for size := range 200 {
		row := mixed(size, size+20)
		checkAll(t, "any", row)
		begun := append([]byte{0x5a}, row...)
		checkAll(t, "any behind 5a", begun)
		checkGet(t, "any behind 5a", begun, 0)
	}
	for _, same := range []byte{0, 0x5a, 0xff} {
		checkAll(t, "many the same", bytes.Repeat([]byte{same}, 1<<20))
	}
	many := bytes.Repeat(formOf(nil), 20000)
	wantAll(t, "many empty", many, make([][]byte, 20000), len(many), api.OK)
	wantAll(t, "many empty and a rest", many[:len(many)-1], make([][]byte, 19999), len(many)-13, api.ErrShort)
}
