/- What the functions of package jacobian answer. No walk. -/
import Derived.Test.YtjpjnmhjbmmaiaaGreatDoorUKD
namespace Go.Proofs.YtjpjnmhjbmmaiaaGreatDoor
def jDbl (c a : Nat) : Nat := addP c a a
def jRise (c X : Nat) : Nat := addP c (mulP c X X) (jDbl c (mulP c X X))
def jMid (c X Y : Nat) : Nat := jDbl c (jDbl c (mulP c X (mulP c Y Y)))
def jX2 (c X Y : Nat) : Nat := subP c (mulP c (jRise c X) (jRise c X)) (jDbl c (jMid c X Y))
def jY2 (c X Y : Nat) : Nat := subP c (mulP c (jRise c X) (subP c (jMid c X Y) (jX2 c X Y))) (jDbl c (jDbl c (jDbl c (mulP c (mulP c Y Y) (mulP c Y Y)))))
def jZ2 (c Y Z : Nat) : Nat := jDbl c (mulP c Y Z)
/-- What Twice answers. -/
def tw (c X Y Z : Nat) : Nat × Nat × Nat := if Z = 0 then (X, Y, Z) else (jX2 c X Y, jY2 c X Y, jZ2 c Y Z)
def cX (c x rise run : Nat) : Nat := subP c (subP c (mulP c rise rise) (mulP c run (mulP c run run))) (addP c (mulP c x (mulP c run run)) (mulP c x (mulP c run run)))
def cY (c x y rise run : Nat) : Nat := subP c (mulP c rise (subP c (mulP c x (mulP c run run)) (cX c x rise run))) (mulP c y (mulP c run (mulP c run run)))
def ovX (c X z : Nat) : Nat := if z = 1 then X else mulP c X (mulP c z z)
def ovY (c Y z : Nat) : Nat := if z = 1 then Y else mulP c Y (mulP c z (mulP c z z))
def prd (c a b : Nat) : Nat := if b = 1 then a else mulP c a b
def rsJ (c Y V Z W : Nat) : Nat := subP c (ovY c V Z) (ovY c Y W)
def rnJ (c X U Z W : Nat) : Nat := subP c (ovX c U Z) (ovX c X W)
/-- What Plus answers. -/
def pl (c X Y Z U V W : Nat) : Nat × Nat × Nat :=
  if Z = 0 then (U, V, W) else if W = 0 then (X, Y, Z) else
  if rnJ c X U Z W ≠ 0 then (cX c (ovX c X W) (rsJ c Y V Z W) (rnJ c X U Z W), cY c (ovX c X W) (ovY c Y W) (rsJ c Y V Z W) (rnJ c X U Z W), mulP c (prd c Z W) (rnJ c X U Z W))
  else if rsJ c Y V Z W ≠ 0 then (0, 0, 0) else tw c X Y Z
/-- What Plain answers. -/
def plainX (c X Z : Nat) : Nat := mulP c X (mulP c (invC c Z) (invC c Z))
def plainY (c Y Z : Nat) : Nat := mulP c Y (mulP c (invC c Z) (mulP c (invC c Z) (invC c Z)))
end Go.Proofs.YtjpjnmhjbmmaiaaGreatDoor
