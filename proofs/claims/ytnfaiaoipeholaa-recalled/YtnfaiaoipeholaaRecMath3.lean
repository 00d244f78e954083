/- The choices that make a tree. No Go here. -/
import Derived.Test.YtnfaiaoipeholaaRecMath2
namespace Go.Proofs.Ytnfaiaoipeholaa
/-- the longest list -/
def mxF (t : ByteArray) : Nat → Nat → Nat → Nat
  | 0, _, r => r
  | n + 1, i, r => mxF t n (i + 1) (if cO (bt t i) = true then max r (els t i) else r)
def mx (t : ByteArray) : Nat := mxF t t.size 0 0
theorem mxF_le (t : ByteArray) (most : Int) : ∀ n i r, ((mxF t n i r : Nat) : Int) ≤ most ↔ (r : Int) ≤ most ∧ Good t most i (i + n)
  | 0, i, r => by
    simp only [mxF]
    exact ⟨fun h => ⟨h, fun p h1 h2 _ => by omega⟩, fun h => h.1⟩
  | n + 1, i, r => by
    unfold mxF
    rw [mxF_le t most n]
    constructor
    · rintro ⟨h1, h2⟩
      split at h1
      · rename_i hc
        refine ⟨by omega, ?_⟩
        rw [show i + (n + 1) = i + 1 + n by omega]
        exact (Good.one (by omega)).join h2
      · rename_i hc
        refine ⟨h1, ?_⟩
        rw [show i + (n + 1) = i + 1 + n by omega]
        exact (Good.plain (by simpa using hc)).join h2
    · rintro ⟨h1, h2⟩
      refine ⟨?_, fun p a b c => h2 p (by omega) (by omega) c⟩
      split
      · rename_i hc
        have := h2 i (Nat.le_refl _) (by omega) hc
        omega
      · exact h1
theorem mx_le (t : ByteArray) {most : Int} (hm : 0 < most) : ((mx t : Nat) : Int) ≤ most ↔ Good t most 0 t.size := by
  unfold mx
  rw [mxF_le, Nat.zero_add]
  exact ⟨fun h => h.2, fun h => ⟨by omega, h⟩⟩

/-- factors -/
def dFs (g : Nat → Nat → Option (Nat × Nat)) (dg : Nat → Nat → List Int) : List Nat → Nat → List Int
  | [], _ => []
  | f :: L, i => dg f i ++ (match g f i with
    | none => []
    | some (j, _) => dFs g dg L j)
/-- elements -/
def dEl (t : ByteArray) (rec : Nat → Option (Nat × Nat)) (dr : Nat → List Int) (b : Int) : Nat → Nat → List Int
  | 0, _ => []
  | m + 1, i => dr i ++ (match rec i with
    | none => []
    | some (j, _) => if bt t j = b then [] else dEl t rec dr b m (j + 1))
/-- the digit of a way: none, where there is but one -/
def dgt (n w : Nat) : List Int := if 1 < n then [48 + (w : Int)] else []
theorem dgt_len (n w : Nat) : (dgt n w).length ≤ 1 := by unfold dgt; split <;> simp
/-- behind a bracket that opens -/
def dB (s t : ByteArray) (m : Nat) (rec : Nat → Nat → Option (Nat × Nat)) (dr : Nat → Nat → Nat → List Int) (l f i : Nat) : List Int :=
  dgt (cnt s m l f) (nB s t rec f i - few (bt s f)) ++ (if bt t i = cC (bt s f) ∧ (bt s f = 91 ∨ bt s f = 123) then [] else dEl t (rec (f + 1)) (dr l (f + 1)) (cC (bt s f)) (t.size - i) i)
/-- a factor -/
def dF (s t : ByteArray) (m : Nat) (rec : Nat → Nat → Option (Nat × Nat)) (dr : Nat → Nat → Nat → List Int) (l f i : Nat) : List Int :=
  if cN (bt s f) = true then dr (l - 1) (rl s (bt s f) + 2).toNat (i + 2) else if cO (bt s f) = true then dB s t m rec dr l f (i + 1) else []
/-- the number of the way of an alternative -/
def wayIx (s : ByteArray) (l x k : Nat) : Nat := ((List.range k).filter fun j => altFit s (nFit s l) (expFit s (nFit s l)) (fe s ((sts s x).getD j 0)).1).length
theorem wayIx_le (s : ByteArray) (l x k : Nat) : wayIx s l x k ≤ k := by
  have := List.length_filter_le (fun j => altFit s (nFit s l) (expFit s (nFit s l)) (fe s ((sts s x).getD j 0)).1) (List.range k); simpa [wayIx] using this
/-- an expression -/
def dE (s t : ByteArray) (m : Nat) : Nat → Nat → Nat → Nat → List Int
  | 0, _, _, _ => []
  | n + 1, l, x, i => dgt (fitL s l x).length (wayIx s l x (bt t i - 48).toNat) ++ (match ap s (bt t i - 48).toNat x with
    | none => []
    | some a => dFs (pF s t 0 (pE s t 0 n)) (dF s t m (pE s t 0 n) (dE s t m n) l) (fe s a).1 (i + 1))
/-- the choices of the whole text -/
def told (s t : ByteArray) (h m : Nat) : List Int := dF s t m (pE s t 0 (t.size + 1)) (dE s t m (t.size + 1)) h 0 0
/-- P7 -/
def rcl (s t : ByteArray) (h m : Int) : ByteArray × Int :=
  if (hgt s t).2 ≠ 0 then (⟨#[]⟩, (hgt s t).2)
  else if ¬ (1 ≤ h ∧ h ≤ 9 ∧ 1 ≤ m ∧ m ≤ 5) then (⟨#[]⟩, 9)
  else if h < (hgt s t).1 ∨ m < (mx t : Int) then (⟨#[]⟩, 10)
  else (strOfNums (told s t h.toNat m.toNat), 0)
theorem pEl_parts {t : ByteArray} {rec : Nat → Option (Nat × Nat)} {b : Int} {many : Bool} {m i top j h : Nat} {cn : Int} (e : pEl t rec b many 0 m i top cn = some (j, h)) (dr : Nat → List Int) :
    ∃ m' a k, m = m' + 1 ∧ rec i = some (a, k) ∧ k ≤ h ∧ ((bt t a = b ∧ j = a + 1 ∧ nEl t rec b m i = 1 ∧ dEl t rec dr b m i = dr i) ∨
      (bt t a ≠ b ∧ bt t a = 44 ∧ pEl t rec b many 0 m' (a + 1) (max top k) (cn + 1) = some (j, h) ∧ nEl t rec b m i = nEl t rec b m' (a + 1) + 1 ∧ dEl t rec dr b m i = dr i ++ dEl t rec dr b m' (a + 1))) := by
  have hfi := pEl_first _ _ _ _ _ _ e
  cases m with
  | zero => cases e
  | succ m =>
    unfold pEl at e
    cases hq : rec i with
    | none => rw [hq] at e; cases e
    | some q =>
      obtain ⟨a, k⟩ := q
      obtain ⟨_, j', h', g1, g2⟩ := hfi
      rw [hq] at g1 e
      simp only [Option.some.injEq, Prod.mk.injEq] at g1
      simp only at e
      rw [if_neg (by omega)] at e
      refine ⟨m, a, k, rfl, rfl, by omega, ?_⟩
      split at e
      · rename_i hb
        simp only [Option.some.injEq, Prod.mk.injEq] at e
        exact .inl ⟨hb, e.1.symm, by simp only [nEl, hq]; rw [if_pos hb], by simp only [dEl, hq]; rw [if_pos hb]; simp⟩
      rename_i hb
      split at e
      · rename_i hc
        exact .inr ⟨hb, hc.1, e, by simp only [nEl, hq]; rw [if_neg hb], by simp only [dEl, hq]; rw [if_neg hb]⟩
      · cases e
section
variable {s t : ByteArray}
/-- the elements that are left -/
def Rest (t : ByteArray) (rec : Nat → Option (Nat × Nat)) (dr : Nat → List Int) (b : Int) (j h k C q : Nat) (D Z : List Int) : Prop :=
  (k = C ∧ q + 1 = j ∧ D = Z) ∨ (k < C ∧ ∃ (mm top : Nat) (cn : Int) (many : Bool), pEl t rec b many 0 mm (if k = 0 then q else q + 1) top cn = some (j, h) ∧ nEl t rec b mm (if k = 0 then q else q + 1) + k = C ∧ Z = D ++ dEl t rec dr b mm (if k = 0 then q else q + 1))
theorem Rest.start {rec : Nat → Nat → Option (Nat × Nat)} {dr : Nat → Nat → Nat → List Int} {l f i j h : Nat} {D : List Int} (hr : ∀ i j h, rec (f + 1) i = some (j, h) → Skip t i j) (hO : cO (bt s f) = true) (e : pB s t 0 rec f i = some (j, h)) (m : Nat) :
    Rest t (rec (f + 1)) (dr l (f + 1)) (cC (bt s f)) j h 0 (nB s t rec f i) i (D ++ dgt (cnt s m l f) (nB s t rec f i - few (bt s f))) (D ++ dB s t m rec dr l f i) := by
  have hx : cX (cC (bt s f)) = true := cX_cC _ (by simpa [cO] using hO)
  unfold pB at e
  unfold nB dB nB
  split at e
  · rename_i hh
    simp only [if_pos hh]
    simp only [Option.some.injEq, Prod.mk.injEq] at e
    exact .inl ⟨rfl, e.1, by simp⟩
  · rename_i hh
    simp only [if_neg hh]
    have h1 := (pEl_skip hr hx _ _ _ _ _ _ e 1 0 (by omega)).2
    refine .inr ⟨h1, t.size - i, 0, 0, _, by rw [if_pos rfl]; exact e, by rw [if_pos rfl]; rfl, by rw [if_pos rfl]; simp⟩
/-- one more -/
theorem Rest.more {rec : Nat → Option (Nat × Nat)} {dr : Nat → List Int} {cl : Int} {j h k C q : Nat} {D Z : List Int} (hR : Rest t rec dr cl j h k C q D Z) (hk : k < C) :
    ∃ a k', rec (if k = 0 then q else q + 1) = some (a, k') ∧ k' ≤ h ∧ Rest t rec dr cl j h (k + 1) C a (D ++ dr (if k = 0 then q else q + 1)) Z := by
  rcases hR with ⟨e, _⟩ | ⟨_, mm, top, cn, many, e1, e2, e3⟩
  · omega
  · obtain ⟨m', a, k', hm, hq, hkh, hc⟩ := pEl_parts e1 dr
    refine ⟨a, k', hq, hkh, ?_⟩
    rcases hc with ⟨_, c1, c2, c3⟩ | ⟨_, c1, c2, c3, c4⟩
    · exact .inl ⟨by omega, by omega, by rw [e3, c3]⟩
    · have h1 : 1 ≤ nEl t rec cl m' (a + 1) := by
        obtain ⟨m2, a2, k2, _, _, _, hc2⟩ := pEl_parts c2 dr
        rcases hc2 with ⟨_, _, d2, _⟩ | ⟨_, _, _, d2, _⟩ <;> omega
      refine .inr ⟨by omega, m', _, _, many, by rw [if_neg (by omega)]; exact c2, by rw [if_neg (by omega)]; omega, by rw [if_neg (show ¬ (k + 1 = 0) by omega), e3, c4]; simp⟩
end
end Go.Proofs.Ytnfaiaoipeholaa
