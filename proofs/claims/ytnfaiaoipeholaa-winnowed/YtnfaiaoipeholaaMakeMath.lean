/- P5 as a whole. No Go here. -/
import Derived.Test.YtnfaiaoipeholaaGenMath
import Derived.Laws.BytesArg
namespace Go.Proofs.Ytnfaiaoipeholaa
/-- digits alone, from a place on -/
def dgF (c : ByteArray) : Nat → Nat → Bool
  | 0, _ => true
  | n + 1, i => cD (bt c i) && dgF c n (i + 1)
def digs (c : ByteArray) : Bool := dgF c c.size 0
/-- depth enough -/
def full (s : ByteArray) : Nat := dep s 9 0
/-- what is made of the start -/
def made (s c : ByteArray) (h m : Nat) : Nat × List Int := genF s c m (genE s c m (full s)) h 0 0
/-- P5 behind P3 -/
def mkR (s c : ByteArray) (h m : Int) : ByteArray × Int :=
  if 2000 < c.size ∨ digs c = false then (⟨#[]⟩, 8)
  else if ¬ (1 ≤ h ∧ h ≤ 9 ∧ 1 ≤ m ∧ m ≤ 5) then (⟨#[]⟩, 9)
  else if nFit s h.toNat (bt s (0 : Nat) - 65).toNat = false then (⟨#[]⟩, 10)
  else if 2000 < (made s c h.toNat m.toNat).2.length then (⟨#[]⟩, 11)
  else (strOfNums (made s c h.toNat m.toNat).2, 0)
/-- P5 -/
def mk (s c : ByteArray) (h m : Int) : ByteArray × Int := if (chk s).1 ≠ 0 then (⟨#[]⟩, (chk s).1) else mkR s c h m
theorem full_le {s : ByteArray} (hs : s.size ≤ 300) : full s ≤ 4000 := by unfold full dep; omega
theorem full_dep {s : ByteArray} {l : Nat} (h : l ≤ 9) : dep s l 0 < full s + 1 := by
  unfold full dep
  have := Nat.mul_le_mul_right (s.size + 2) h
  omega
end Go.Proofs.Ytnfaiaoipeholaa
