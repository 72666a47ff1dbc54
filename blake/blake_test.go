package blake

import (
	"bytes"
	"encoding/hex"
	"math"
	"slices"
	"strings"
	"testing"

	"sigil/api"
)

// The digests that these tests hold the answers against were worked out by another program of RFC 7693.

// abc: the digest of "abc" as RFC 7693 gives it.
const abc = "ba80a53f981c4d0d6a2797b69f12f6e94c212f14685ac4b74b12bb6fdbffa2d17d87c5392aab792dc252d5de4533cc9518d38aa8dbf1925ab92386edd4009923"

// message: bytes that don't come again block by block.
func message(n int) []byte {
	b := make([]byte, n)
	for i := range b {
		b[i] = byte((i*7 + 3) % 251)
	}
	return b
}

func sum(t *testing.T, person string, length int, b []byte) []byte {
	t.Helper()
	got, e := Sum(person, length, b)
	if e != api.OK || len(got) != length {
		t.Fatalf("Sum(%q, %d) of %d bytes: %x %d", person, length, len(b), got, e)
	}
	return got
}

func begun(t *testing.T, person string, length int) *Digest {
	t.Helper()
	d, e := New(person, length)
	if e != api.OK || d == nil {
		t.Fatalf("New(%q, %d): %v %d", person, length, d, e)
	}
	return d
}

// sizes: lengths of messages around those of a block and of two.
func sizes() []int { return []int{0, 1, 2, 63, 64, 65, 126, 127, 128, 129, 130, 255, 256, 257} }

// P3.1

func TestSumExamples(t *testing.T) {
	if got := hex.EncodeToString(sum(t, "", 64, []byte("abc"))); got != abc {
		t.Errorf("abc: %s", got)
	}
	for _, none := range [][]byte{nil, {}} {
		if got := hex.EncodeToString(sum(t, "", 64, none)); !strings.HasPrefix(got, "786a02f7") {
			t.Errorf("no bytes: %s", got)
		}
	}
}

func TestSumOfMessages(t *testing.T) {
	for _, c := range []struct {
		size int
		want string
	}{
		{0, "786a02f742015903c6c6fd852552d272912f4740e15847618a86e217f71f5419d25e1031afee585313896444934eb04b903a685b1448b755d56f701afe9be2ce"},
		{1, "4fe4da61bcc756071b226843361d74944c72245d23e8245ea678c13fdcd7fe2ae529cf999ad99cc24f7a73416a18ba53e76c0afef83b16a568b12fbfc1a2674d"},
		{3, "76ce7e90c577d436a65b691e51f0a1ad536130d70a18df3bf5368551327258b6f706f4a47c45f2d0d8147cfbb5623077e798247972e4f9338603a13abc05a4db"},
		{63, "b812e7b2cbee664936ead9db3bbc557d46246147b8198779330bbff4572cb520290b70fc1dd2a491a2cd0b0af127ab4ba041d408a6f56824a07a8a8929eb1e1d"},
		{64, "74ed4268e8bb090b3fee4f6ff67ac4610a21fb633ba93479501e83d6f02390d52a612013250d5b40477f52bdb6fc1c95ac335a775fcfc6a92f9d888db25de983"},
		{65, "1245baced49a22e0d645086b85efa03866ae620d3ef1535220e293f352dffeb80c8b4b09c7dc0ccbebe14dd3c04da25d890be96ba095a3b01cc6629a2b8acfb9"},
		{127, "965b0d67d74567a8e84273ff74730f14645dfb11cf263d0e20cbcb5fa3fadb5eec725f9d5dd4f4fd60ee10390fcdd3188ce53faf105d82e6594773ea398edbe1"},
		{128, "a4d40e9fac2f4491cc7c048202589a43de09be6e0a9e16efe8765eb2fe2c9395d27417f6e21256f26d90a1315d76e51db0045e934a29c8dae2150a4484ad5d87"},
		{129, "0263b9cb461cd36c77452119f6920ce4a95a9c47f48f241377dc33d09732464c30295c38590761f1b16464f4fa54bbb37e95c6e664adf7b66800b71ffec75503"},
		{255, "c3dad47cc5975efc76145af76b69acb9c4ff01eeab093226d54fc0705601ec603018c811ded3463cb21f1a6c6e0d54a2812f8f3406981772896d4d97770e16ba"},
		{256, "5eb68fbd373e852c1f4aaf96953c480367c87135e721deb5db341bbbc497cfae000aef2af67dbd311ecf01a42a23d442f1fec22d9a0258d8fad22da2390c0680"},
		{257, "c8d9abb099ddff17483c75eee9bd368102862dc1a1088d957323fa8c0527eae56e568deb089ed96ed6a66addc7469a54491ebff01a94afdfb9b5e36acd869f86"},
		{1000, "4f7c042aaed7f13a9c87a6ad31816ecdd9a19bf5568d552cc9753fa5e68ed99273a7aa4990c1f462cc2b4b740e170b97820551eef6d2f8aa21401ce8c3f67ee7"},
	} {
		if got := hex.EncodeToString(sum(t, "", 64, message(c.size))); got != c.want {
			t.Errorf("%d bytes: %s", c.size, got)
		}
	}
}

func TestSumOfPersonsAndLengths(t *testing.T) {
	for _, c := range []struct {
		person string
		length int
		want   string
	}{
		{"", 1, "04"},
		{"", 32, "cd1a70c590a747049caf4a8ab0b77979406e9bd5fd576a14f2d52710ce5e39c4"},
		{"", 63, "84c28e3f5d0b63f4f28d32ceb6fa2fc827cb514cb446e5d260ad601ad1ae482e8e8276fa16c8faf765c5bc77d455f052a45a4c21e3108c7b98976298d521b9"},
		{"", 64, "6bb967af0bbe3d226b6a9225743a69014b4d1741389c21630c134860b4142454b3a22527cb10f48b460e6a6e813f7a0c919945b9d41838792b38bf71c8cd3414"},
		{"p", 1, "ff"},
		{"p", 32, "9402270c0aadd7e1be241dbb146e4681171186f35e37c61bbb95a42a3d62b15a"},
		{"p", 63, "1a2237a60cc5d126d7706ae20dd8f614fcd2af96bb3a81a941ecd4ecdc5142edaa2d89adaa3c1fa6af81b24d6027c620bfa28f3105382b6dd4d15f42417b30"},
		{"p", 64, "566d5ed43f8bebd8c3c46df5188f895ea7fd705019a41163523429aa4574e0004a66142a29c9bcd09f1665a576d84eda2590e558c5b259824c689ecd0333e64e"},
		{"12345678", 1, "90"},
		{"12345678", 32, "675c4964acc5984afb0f26635f93a0bd23ba19443fecc9cec252b72e8c38a81d"},
		{"12345678", 63, "f120520a27a580ed859eaa12fabb8726d1b0ed4694e29a5100484682e598502b4613d133336e1f002dd23f7981985cfdebf4696e4f48c197607192641f6629"},
		{"12345678", 64, "3dd046a2fd0d2a17ed17fbb0b363f2c0cec272bf35250a8960498ec66abfb2964fc9677bb3566b7f812bfe844f91b45224d78845ae3fc102aec4d3d16cacd086"},
		{"123456789", 1, "02"},
		{"123456789", 32, "59c8a4494dc5a70dae798dba8b53133df765d6432716c8075aaa1b6342c66212"},
		{"123456789", 63, "36a36ea83038c9e3dad29e567c487f5c89e2c0b3c9a630b620232c9f00c597fbae7653ac57480e78f5e02142d9effaa81eafe30cabc915ad87e4ab80390773"},
		{"123456789", 64, "c203d82c81047748e611c874453d5170b6858f7132ea25b3a7bf67b6cb8c242431309039c0a29b01a551bfd884ad156763cc924da2a4916ae0fd3152830fb051"},
		{"1234567890123456", 1, "47"},
		{"1234567890123456", 32, "7fae8783e8f6c5704ed0ec233ee1d3844eacb87b7bf942b4ad3336a1530ff7df"},
		{"1234567890123456", 63, "a0840e8325662d045c316673214e72f798cce3425b97e88c5b36188508326d4f6167f8b9617898ebf0d5e871fcea1ce9c626103b12dcfdd1450f0a0f5e66ef"},
		{"1234567890123456", 64, "584a43b82ad97354616cc24046c6432ec021eca343815ce3124b569212c31cdef226f7d795f4814a51ff680c274f04790a27d1865ea1ca59a5c237a6ccbf094f"},
	} {
		if got := hex.EncodeToString(sum(t, c.person, c.length, message(100))); got != c.want {
			t.Errorf("%q, %d: %s", c.person, c.length, got)
		}
	}
}

// A digest of many digests stands for all of them.
func TestSumOfManySums(t *testing.T) {
	var bySize, byPerson []byte
	for n := range 700 {
		bySize = append(bySize, sum(t, "", 64, message(n))...)
	}
	if got := hex.EncodeToString(sum(t, "", 64, bySize)); got != "a155b4d613c1bdee6509cae3fedc2eeddfcc31f1343c672d0b55464244b363681b1a31d0b2273c0bfa56b53d5141b4ac1ae08c9542f84562fae8336ca4b453d9" {
		t.Errorf("of messages of 0 to 699 bytes: %s", got)
	}
	// Bytes of all weights, which aren't a text in UTF-8.
	person := make([]byte, 16)
	for i := range person {
		person[i] = byte(0xf0 + i*3)
	}
	for p := range 17 {
		for length := 1; length <= 64; length++ {
			byPerson = append(byPerson, sum(t, string(person[:p]), length, message((p*64+length)%400))...)
		}
	}
	if got := hex.EncodeToString(sum(t, "", 64, byPerson)); got != "5d4e265951ff0bd86f161d77e372178b36006dc6e3b2cbcd4019b31265c4fc16db834774d24e682519e94142adda2929023f3f4a110668255bf90165509c2236" {
		t.Errorf("of all persons' and digests' lengths: %s", got)
	}
}

func TestPersonEndsInZeros(t *testing.T) {
	for n := range 17 {
		short := strings.Repeat("x", n)
		long := short + strings.Repeat("\x00", 16-n)
		if !bytes.Equal(sum(t, short, 64, message(10)), sum(t, long, 64, message(10))) {
			t.Errorf("a person of %d bytes, and with bytes 0 behind it", n)
		}
	}
	if bytes.Equal(sum(t, "x", 64, message(10)), sum(t, "\x00x", 64, message(10))) {
		t.Error("bytes 0 ahead of a person make no difference")
	}
}

// settings: persons and lengths, and whether they are refused.
func settings(look func(person string, length int, refused bool)) {
	persons := []string{"", "1", "12345678", "123456789", "1234567890123456", "12345678901234567",
		strings.Repeat("é", 8), strings.Repeat("é", 9), strings.Repeat("\x00", 16), strings.Repeat("\x00", 17), "\xff", strings.Repeat("p", 1000)}
	lengths := []int{math.MinInt, -64, -1, 0, 1, 32, 63, 64, 65, 128, 256 + 32, 1<<32 + 1, math.MaxInt}
	for _, person := range persons {
		for _, length := range lengths {
			look(person, length, len(person) > 16 || length < 1 || length > 64)
		}
	}
}

func TestSumRefuses(t *testing.T) {
	settings(func(person string, length int, refused bool) {
		for _, size := range []int{0, 3, 128, 300} {
			got, e := Sum(person, length, message(size))
			if refused && (len(got) != 0 || e != api.ErrKey) {
				t.Errorf("Sum(%q, %d): %x %d", person, length, got, e)
			}
			if !refused && (len(got) != length || e != api.OK) {
				t.Errorf("Sum(%q, %d): %x %d", person, length, got, e)
			}
		}
	})
}

// P3.2

func TestNewRefuses(t *testing.T) {
	settings(func(person string, length int, refused bool) {
		d, e := New(person, length)
		if refused && (d != nil || e != api.ErrKey) {
			t.Errorf("New(%q, %d): %v %d", person, length, d, e)
		}
		if !refused && (d == nil || e != api.OK) {
			t.Errorf("New(%q, %d): %v %d", person, length, d, e)
		}
	})
}

func TestNewHasTakenNothing(t *testing.T) {
	settings(func(person string, length int, refused bool) {
		if !refused && !bytes.Equal(begun(t, person, length).Sum(), sum(t, person, length, nil)) {
			t.Errorf("New(%q, %d) has taken bytes", person, length)
		}
	})
}

// piecesOf: what a message is cut into at every so many bytes.
func piecesOf(b []byte, n int) [][]byte { return slices.Collect(slices.Chunk(b, n)) }

func TestPieces(t *testing.T) {
	for n := 1; n <= 260; n++ {
		all := message(520)
		silent, asked := begun(t, "person", 40), begun(t, "person", 40)
		taken := 0
		for _, piece := range piecesOf(all, n) {
			silent.Write(piece)
			asked.Write(piece)
			taken += len(piece)
			want := sum(t, "person", 40, all[:taken])
			if !bytes.Equal(asked.Sum(), want) || !bytes.Equal(asked.Sum(), want) {
				t.Fatalf("%d bytes in pieces of %d", taken, n)
			}
		}
		if !bytes.Equal(silent.Sum(), sum(t, "person", 40, all)) {
			t.Errorf("pieces of %d, asked at the end alone", n)
		}
	}
}

func TestTwoPieces(t *testing.T) {
	for _, first := range sizes() {
		for _, second := range sizes() {
			all := message(first + second)
			d := begun(t, "", 64)
			d.Write(all[:first])
			d.Write(all[first:])
			if !bytes.Equal(d.Sum(), sum(t, "", 64, all)) {
				t.Errorf("%d bytes and %d", first, second)
			}
		}
	}
}

func TestEmptyPieces(t *testing.T) {
	for _, size := range sizes() {
		d := begun(t, "e", 64)
		writeNone := func() {
			d.Write(nil)
			d.Write([]byte{})
		}
		writeNone()
		for _, piece := range piecesOf(message(size), 64) {
			d.Write(piece)
			writeNone()
		}
		if !bytes.Equal(d.Sum(), sum(t, "e", 64, message(size))) {
			t.Errorf("%d bytes, with empty pieces between", size)
		}
	}
}

// What lay in a block ahead of a shorter one doesn't come into the digest.
func TestLastBlockIsFilledWithZeros(t *testing.T) {
	for _, size := range sizes() {
		d := begun(t, "", 64)
		d.Write(bytes.Repeat([]byte{255}, 128))
		d.Write(make([]byte, size))
		want := sum(t, "", 64, append(bytes.Repeat([]byte{255}, 128), make([]byte, size)...))
		if !bytes.Equal(d.Sum(), want) {
			t.Errorf("%d bytes 0 behind a block", size)
		}
	}
	// Bytes 0 count, though blocks are filled with them.
	if bytes.Equal(sum(t, "", 64, nil), sum(t, "", 64, make([]byte, 1))) || bytes.Equal(sum(t, "", 64, make([]byte, 127)), sum(t, "", 64, make([]byte, 128))) {
		t.Error("a byte 0 makes no difference")
	}
}

func TestTwoDigestsAtOnce(t *testing.T) {
	one, other := begun(t, "one", 64), begun(t, "other", 20)
	a, b := message(600), message(900)[300:]
	for at := 0; at < 600; at += 50 {
		one.Write(a[at : at+50])
		other.Write(b[at : at+50])
		if !bytes.Equal(one.Sum(), sum(t, "one", 64, a[:at+50])) || !bytes.Equal(other.Sum(), sum(t, "other", 20, b[:at+50])) {
			t.Errorf("two digests, at %d", at)
		}
		// A third one that begins amid them disturbs neither.
		begun(t, "one", 64).Write(b)
		if _, e := New("one", 65); e != api.ErrKey {
			t.Errorf("a length of 65: %d", e)
		}
	}
}

// P3.3

func TestWhatIsHandedInIsAsItWas(t *testing.T) {
	all := message(700)
	before := bytes.Clone(all)
	for _, size := range sizes() {
		// Behind the length lies memory that isn't to be touched either.
		sum(t, "p", 64, all[:size])
		d := begun(t, "p", 64)
		d.Write(all[:size])
		d.Sum()
		d.Write(all[size : 2*size])
		d.Sum()
		if !bytes.Equal(all, before) {
			t.Fatalf("%d bytes were changed", size)
		}
	}
}

func TestWhatIsHandedInIsNotKept(t *testing.T) {
	for _, size := range sizes() {
		d := begun(t, "p", 64)
		b := message(size)
		for range 3 {
			copy(b, message(size))
			d.Write(b)
			for i := range b {
				b[i] = 77
			}
		}
		if !bytes.Equal(d.Sum(), sum(t, "p", 64, bytes.Repeat(message(size), 3))) {
			t.Errorf("%d bytes, changed afterwards", size)
		}
	}
}

func TestWhatIsAnsweredIsNew(t *testing.T) {
	spoil := func(b []byte) {
		b = b[:cap(b)]
		for i := range b {
			b[i] = 77
		}
	}
	for _, length := range []int{1, 7, 8, 9, 32, 63, 64} {
		for _, size := range sizes() {
			d := begun(t, "p", length)
			d.Write(message(size))
			want := sum(t, "p", length, message(size))
			kept := bytes.Clone(want)
			first := d.Sum()
			second := d.Sum()
			spoil(first)
			spoil(sum(t, "p", length, message(size)))
			if !bytes.Equal(second, kept) || !bytes.Equal(want, kept) || !bytes.Equal(d.Sum(), kept) || !bytes.Equal(sum(t, "p", length, message(size)), kept) {
				t.Errorf("%d bytes of %d: answers share memory", length, size)
			}
			d.Write(message(200))
			if !bytes.Equal(second, kept) || !bytes.Equal(d.Sum(), sum(t, "p", length, append(message(size), message(200)...))) {
				t.Errorf("%d bytes of %d: a later piece meets an earlier answer", length, size)
			}
		}
	}
}
