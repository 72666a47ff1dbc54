package ipa

import (
	"bytes"
	"crypto/sha256"
	"encoding/hex"
	"math/big"
	"strconv"
	"testing"

	"sigil/api"
	"sigil/curve"
	"sigil/field"
)

// named: a number below 2^256 that another program can work out too.
func named(name string) api.Elem {
	sum := sha256.Sum256([]byte(name))
	return elemOf(new(big.Int).SetBytes(sum[:]))
}

// listed: so many named numbers.
func listed(name string, n int) []api.Elem {
	var list []api.Elem
	for i := range n {
		list = append(list, named(name+" "+strconv.Itoa(i)))
	}
	return list
}

func digestOf(b []byte) string {
	sum := sha256.Sum256(b)
	return hex.EncodeToString(sum[:])
}

// termBytes: each term's scalar and point as bytes.
func termBytes(c int, terms []api.Term) []byte {
	var b bytes.Buffer
	for _, term := range terms {
		b.Write(field.Encode(c^1, term.K))
		b.Write(curve.Encode(c, term.P))
	}
	return b.Bytes()
}

// P10.1, P10.2

// Digests of proofs and of terms that were worked out by another program, its BLAKE2b and its curves among it.
func TestOfAnotherProgram(t *testing.T) {
	for _, want := range []struct {
		curve, k, mode int
		proof, terms   string
	}{
		{0, 0, 0, "e63525e21971c8526b32f96679c7b01f1866ff9a648ee379e420a189cad27a54", "75f2ecd0a1f664f048480eae7a6fee91843f7414e8c67630c1fbc9d0c8439209"},
		{0, 0, 1, "89606400969c230c73e9395412f09c4c01f25ce13325a9fe56afad2343dbf78e", "4c834be8555ab461e40baebd2d6a81ee1025f37593481930f71ba238f6c40a97"},
		{0, 1, 0, "3f11eb71f0a9c6de63cbe874bca39672fce42b9000c73633ee814837d82cef92", "bda2eabb508d749adb1e9294ef47f60f5ef9800bc6f344274ef8790313c73c71"},
		{0, 1, 1, "d943b44f3d3010d439b78fe32edd19574d8818d497dc66d06c82c3d1f6230919", "2979973d6a2a39aadfc731604b4da6e7cbd5b0ff69a07c148c634d22c32d2e73"},
		{0, 3, 0, "f57844b40ff0f34593bfedc49be52c325df4debd5d61d667197a2fddcfbc56e5", "a058d4b8081e6b0cc886afdefc6747414996aa5ac31e7571885c1e686fee732e"},
		{0, 3, 1, "3f45c664df5337742adaac14d0d5a87588b0bbe3b7d3bd2fd1a6253d48ecf134", "1d184529d99cb5cca08dfbf11dd71340001a0f5cb3832e840ed4d5cb8bdd39cc"},
		{0, 5, 0, "224dcdf2e2d45f392b6c7a8bc00ed1599b362209087e5b3913696a0c63cfc391", "596ca9b25b337517eda4e647c40a8e51f95aae534e20b0469c04f846e726ab27"},
		{0, 5, 1, "086d187f9708768b59c703996d2faf12ae3fcf96b0f20aeb22af6cdfe7970613", "0c909961968c2b7eed3f47f852cb6b830d1b49702d1cebb32dda35f182b8e712"},
		{1, 0, 0, "db1f6b5ec89afc0b5f8bde7d725897dbdabe0de5c5b997b212cd95bba19faf47", "acd09cf6121bb87aefce8fe39d97bf80db105f50237817dc32f14aafd5019a23"},
		{1, 0, 1, "8738f613f6a1a010672ac7f3b350b92eec46ad9f11038ce6e2396c3519d3d257", "d1ec2fce3a2ece1a32c0f735be3a27303e6d222e431793dfecac74345237d5cb"},
		{1, 1, 0, "98e778e0b700cb9c7a378f1be7130db398e32a097a3da88c0cc1e96ab550e39c", "84ec6071db5ffe494cfd09b6f77daa2444408fb080c87aa24728edb8b48125ca"},
		{1, 1, 1, "db99850e85f0306215a071a14dfaaab5f49ab87eee17d96a3845b20494a81cf4", "b6ab20fff1bfc94e2ae9c670a5a4f639c0c7983e3f2b97933c667c5c50eab8e7"},
		{1, 3, 0, "3551cdcd2e4c0643ebad6c106e7905ed4ad8c37112a0b6d69a0474a62fe2e4e7", "2d1f5a3d91e69f52152788b145b568b226ad1751ec9b974929e320fcc9d36eb3"},
		{1, 3, 1, "25be8015099192802adf800d539b5d1d40fe08f0b1ba17d90c8f7d13756a0aa1", "b7a0c4956cd246acfa8113741617ae1e132323a5d73d941f3f87122ec3c1c999"},
		{1, 5, 0, "701bdd3e41bf41c0498e0202857deb5ba2f69564690bcf8ae51b9cd9d2efd0c2", "cf30176387152f2bcc062d0795ac1703323933edd3d7426d760918ab9f5833a1"},
		{1, 5, 1, "8193ca18243897096b26414bfec025d535b23ad71a8fae759c6213afecdd8a9b", "971465c6640e12429b51fc319cf00ee2b0996b30318087f7717c5240b5a35baf"},
		{2, 0, 0, "8228c40246547326157310f92453479be2a18bb0a7a27400922122c8e2b5580f", "399f496f6c5fa51e4680709087514b2f04b268df33bb1f8a6c05221977caab76"},
		{2, 0, 1, "f3d52d14a68e5f88713d8800239c5dda070f0983fe4690f34e1b560afb7566c0", "07aa63b6c27b89fcd9756bd17d209d7b49a3e3a53f1c0d827c903f08a4fb89df"},
		{2, 1, 0, "1800365eb605af19787a5e16179504d8c8235a7abc1638b6f3711af29d26995b", "7321053c8f3c20e04f24e925f9432d8eb42c4962f9b4484f62225a69f9ad85b6"},
		{2, 1, 1, "8427e2822adf2a29b539b1059bede779429406008fbea5a1bcede5f14980beb2", "e0fe499d77bac8436c517feb1c4bd28bdc992ce2fb9bd419935eb82bd20c154e"},
		{2, 3, 0, "75f77d99376327b8e82ddbd782ff408e53f0511afdf927b7f837d20bbe979896", "20af751802f65db25687469f7a5e7736e2bb5fbbb8fb54a78537704acbbe1b30"},
		{2, 3, 1, "8ef71b1a6f89a0e0043032c8c35308abf025f7a831ed560216c8464572454ff9", "dd1561c3fd96bc376bc5a19a666eb8a486dde0237f327a23374252dbe1b2a89b"},
		{2, 5, 0, "d0e4ee07f891072fe02171387ce293082cb3d357c0b812a1aabe9261d79384b3", "36fa6fae0c6e46fe856489829d2c3e6c7ebc9fc2c1937daf9a1b48439da8d83d"},
		{2, 5, 1, "fbcfa57e40dc2a4e8c7173290fcab8a46cb04f3d505bde24c372659406be0476", "01abace938308f96bed29a48d75beaee8a1b9163bada2e3c14abd96cc9dfe2bd"},
		{3, 0, 0, "3b986282a7378625c27d70770951f8a7a6cfe9c3e996df4991604a5b05e8ef9f", "af00f957b4735769ad7f3fbfdd495d43a30f2732077c347fead3dd59f3405809"},
		{3, 0, 1, "c48fec1b4d01d3c7fa8c2ad38720a85e5211c16bdd86c9bbf6908fd02152fe02", "93dc4043d10e6661dcfb365d7271313b024bbdf71efb716f131f7dea1aec8d70"},
		{3, 1, 0, "eb606de32fe49c7f283bf0ae8430838a6f8cb2eb47d64f51f8658204c1db8f2d", "35956ed4f0b57d0e45ca1c1a13864d93bf91c057a568d20ecf44fd189e5ec5d8"},
		{3, 1, 1, "b6ffee75a3ced8b6ecd2e9a843cbb0f5c35b54639cfb017a46f467df355a5c36", "6d6b75d0b2ba96b62808b3c35d16e4b9b41eaa2d51940acae4258033c87cec35"},
		{3, 3, 0, "f76163b887ce3597e05cf0a13683ed82544484f3d108edb4b477955828c08e7a", "6a9ee5ed28be5a086202ef0b34abd86c397bd812a33b874b915ddc58bfdb6a1f"},
		{3, 3, 1, "6f5030057b6eb9172b64b2c377ace83368952baf1d9cf1ea4e2409cfac1d42e2", "947104d173d173b360e119b213db677b9e31431a817ecf633640c99a11b29bc2"},
		{3, 5, 0, "2e753c75ad3a5c749c7cb0e819081869200c2cb20e4f77282911672d07da8f03", "4f7a8de525423e2efb935fe5625d59f896c384dde9b34a4c890a574fed3a48ed"},
		{3, 5, 1, "ca59150acf1f551c8a052532332150be9e0e8d789505a443d9983ee5824f2b46", "3d2f9ebdafdcbd043a6e35c52133807aa02be5e7587f04d6d25504783a817a7c"},
	} {
		o := opening{
			params: made(t, want.curve, want.k),
			src:    api.Source{Mode: want.mode, Tape: listed("challenge", 2+want.k)},
			coins:  listed("coin", coinsFor(want.k)),
			coeffs: listed("coefficient", 1<<want.k),
			blind:  named("blind"),
			x:      named("point"),
		}
		proof := o.said(t)
		if got := digestOf(proof); got != want.proof {
			t.Errorf("on %d of the size %d, by the source %d: the proof's digest is %s, not %s", want.curve, want.k, want.mode, got, want.proof)
		}
		terms := verified(t, o, proof, o.commitment(t), o.x, o.value())
		if got := digestOf(termBytes(want.curve, terms)); got != want.terms {
			t.Errorf("on %d of the size %d, by the source %d: the terms' digest is %s, not %s", want.curve, want.k, want.mode, got, want.terms)
		}
	}
}
