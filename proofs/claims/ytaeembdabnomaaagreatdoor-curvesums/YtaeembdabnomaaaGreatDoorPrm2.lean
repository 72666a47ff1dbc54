/- The four moduli are prime numbers. No program is named here. -/
import Derived.Test.YtaeembdabnomaaaGreatDoorPrm
namespace Go.Proofs.YtaeembdabnomaaaGreatDoor
set_option maxRecDepth 100000
theorem prime0 : IsPrime 16513537 := prime_trial (k := 4063) (by decide) (by decide +kernel) (by decide)
theorem prime1 : IsPrime 16521217 := prime_trial (k := 4064) (by decide) (by decide +kernel) (by decide)
theorem prime2xxx : IsPrime 772231 := prime_trial (k := 878) (by decide) (by decide +kernel) (by decide)
theorem prime2xxy : IsPrime 509 := prime_trial (k := 22) (by decide) (by decide +kernel) (by decide)
theorem prime2xx : IsPrime 325086459374267 :=
  pock_pm (F := 772231 * 509) (R := 827054) (a := 2) (c1 := 772231) (c2 := 509) (f := 49) (by decide) (by decide) (by decide) (dvd_two prime2xxx prime2xxy) (by decide) (by decide) (by decide) (by decide +kernel) (by decide +kernel) (by decide +kernel) (by decide)
theorem prime2xyx : IsPrime 41655379 := prime_trial (k := 6454) (by decide) (by decide +kernel) (by decide)
theorem prime2xy : IsPrime 22160661629 :=
  pock_pm (F := 41655379) (R := 532) (a := 2) (c1 := 1) (c2 := 1) (f := 35) (by decide) (by decide) (by decide) (dvd_one prime2xyx) (by decide) (by decide) (by decide) (by decide +kernel) (by decide +kernel) (by decide +kernel) (by decide)
theorem prime2x : IsPrime 8999194758858563409123804352480028797519453 :=
  pock_pm (F := 325086459374267 * 22160661629) (R := 1249171444262593764) (a := 2) (c1 := 325086459374267) (c2 := 22160661629) (f := 143) (by decide) (by decide) (by decide) (dvd_two prime2xx prime2xy) (by decide) (by decide) (by decide) (by decide +kernel) (by decide +kernel) (by decide +kernel) (by decide)
theorem prime2 : IsPrime 28948022309329048855892746252171976963363056481941560715954676764349967630337 :=
  pock_pm (F := 8999194758858563409123804352480028797519453) (R := 3216734728497058061019394250637312) (a := 2) (c1 := 1) (c2 := 1) (f := 255) (by decide) (by decide) (by decide) (dvd_one prime2x) (by decide) (by decide) (by decide) (by decide +kernel) (by decide +kernel) (by decide +kernel) (by decide)
theorem prime3xxx : IsPrime 31649 := prime_trial (k := 177) (by decide) (by decide +kernel) (by decide)
theorem prime3xxy : IsPrime 757 := prime_trial (k := 27) (by decide) (by decide +kernel) (by decide)
theorem prime3xx : IsPrime 5239247429827 :=
  pock_pm (F := 31649 * 757) (R := 218682) (a := 2) (c1 := 31649) (c2 := 757) (f := 43) (by decide) (by decide) (by decide) (dvd_two prime3xxx prime3xxy) (by decide) (by decide) (by decide) (by decide +kernel) (by decide +kernel) (by decide +kernel) (by decide)
theorem prime3xy : IsPrime 294793 := prime_trial (k := 542) (by decide) (by decide +kernel) (by decide)
theorem prime3x : IsPrime 10427374428728808478656897599072717 :=
  pock_pm (F := 5239247429827 * 294793) (R := 6751323102104356) (a := 2) (c1 := 5239247429827) (c2 := 294793) (f := 114) (by decide) (by decide) (by decide) (dvd_two prime3xx prime3xy) (by decide) (by decide) (by decide) (by decide +kernel) (by decide +kernel) (by decide +kernel) (by decide)
theorem prime3y : IsPrime 24859 := prime_trial (k := 157) (by decide) (by decide +kernel) (by decide)
theorem prime3 : IsPrime 28948022309329048855892746252171976963363056481941647379679742748393362948097 :=
  pock_pm (F := 10427374428728808478656897599072717 * 24859) (R := 111676109463821877905578580569522962432) (a := 2) (c1 := 10427374428728808478656897599072717) (c2 := 24859) (f := 255) (by decide) (by decide) (by decide) (dvd_two prime3x prime3y) (by decide) (by decide) (by decide) (by decide +kernel) (by decide +kernel) (by decide +kernel) (by decide)
end Go.Proofs.YtaeembdabnomaaaGreatDoor
