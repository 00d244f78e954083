/- The least heights, as the reference reckons them. No Go here. -/
import Derived.Test.YtnfaiaoipeholaaReadMath
namespace Go.Proofs.Ytnfaiaoipeholaa

/-- where the alternatives of an expression begin -/
def stF (s : ByteArray) : Nat → Nat → List Nat
  | 0, x => [x]
  | n + 1, x => x :: (if bt s (fe s x).2 = 124 then stF s n ((fe s x).2 + 1) else [])
def sts (s : ByteArray) (x : Nat) : List Nat := stF s (s.size - x) x
theorem stF_ap (s : ByteArray) : ∀ n x k, s.size - x ≤ n → ap s k x = (stF s n x)[k]?
  | 0, x, 0, h => rfl
  | 0, x, k + 1, h => by
    have h2 := fe_bd s x
    have h1 : ¬ bt s (fe s x).2 = 124 := fun e => by have := bt_lt (s := s) (p := (fe s x).2) (by omega); omega
    simp [ap, stF, h1]
  | n + 1, x, 0, h => rfl
  | n + 1, x, k + 1, h => by
    unfold ap stF
    by_cases e : bt s (fe s x).2 = 124
    · have h3 := bt_lt (s := s) (p := (fe s x).2) (by omega)
      have h4 := fe_bd s x
      rw [if_pos e, if_pos e, stF_ap s n _ k (by omega)]; simp
    · rw [if_neg e, if_neg e]; simp
theorem sts_ap (s : ByteArray) (x k : Nat) : ap s k x = (sts s x)[k]? := stF_ap s _ x k (Nat.le_refl _)
theorem sts_bd {s : ByteArray} {x a : Nat} (h : a ∈ sts s x) : x ≤ a ∧ (a ≤ s.size ∨ a = x) := by
  obtain ⟨k, hk⟩ := List.getElem?_of_mem h
  rw [← sts_ap] at hk
  exact ap_bd hk

/-- a factor's least height, where those of the names and of what stands in brackets are known -/
def facH (s : ByteArray) (nm : Nat → Int) (rec : Nat → Int) (f : Nat) : Int :=
  if cN (bt s f) = true then nm (bt s f - 65).toNat + 1 else if bt s f = 40 ∨ bt s f = 60 then rec (f + 1) else 0
/-- an alternative's -/
def topH (s : ByteArray) (nm : Nat → Int) (rec : Nat → Int) (L : List Nat) (top : Int) : Int := L.foldl (fun t f => max t (facH s nm rec f)) top
def altH (s : ByteArray) (nm : Nat → Int) (rec : Nat → Int) (L : List Nat) : Int := if 99 < topH s nm rec L 0 then 99 else topH s nm rec L 0
/-- the least of alternatives -/
def minH (s : ByteArray) (nm : Nat → Int) (rec : Nat → Int) (l : List Nat) (best : Int) : Int := l.foldl (fun b a => if altH s nm rec (fe s a).1 < b then altH s nm rec (fe s a).1 else b) best
/-- an expression's -/
def lowF (s : ByteArray) (nm : Nat → Int) : Nat → Nat → Int
  | 0, _ => 99
  | n + 1, x => minH s nm (lowF s nm n) (sts s x) 99
theorem topH_congr {s : ByteArray} {nm : Nat → Int} {r r' : Nat → Int} : ∀ (L : List Nat) (top : Int), (∀ f ∈ L, r (f + 1) = r' (f + 1)) → topH s nm r L top = topH s nm r' L top
  | [], top, h => rfl
  | f :: L, top, h => by
    have e : facH s nm r f = facH s nm r' f := by unfold facH; rw [h f (by simp)]
    show topH s nm r L (max top (facH s nm r f)) = topH s nm r' L (max top (facH s nm r' f))
    rw [e, topH_congr L _ (fun f' hf => h f' (by simp [hf]))]
theorem altH_congr {s : ByteArray} {nm : Nat → Int} {r r' : Nat → Int} {L : List Nat} (h : ∀ f ∈ L, r (f + 1) = r' (f + 1)) : altH s nm r L = altH s nm r' L := by
  unfold altH; rw [topH_congr L 0 h]
theorem minH_congr {s : ByteArray} {nm : Nat → Int} {r r' : Nat → Int} : ∀ (l : List Nat) (best : Int), (∀ a ∈ l, ∀ f ∈ (fe s a).1, r (f + 1) = r' (f + 1)) → minH s nm r l best = minH s nm r' l best
  | [], best, h => rfl
  | a :: l, best, h => by
    have e := altH_congr (s := s) (nm := nm) (h a (by simp))
    show minH s nm r l (if altH s nm r (fe s a).1 < best then altH s nm r (fe s a).1 else best) = minH s nm r' l (if altH s nm r' (fe s a).1 < best then altH s nm r' (fe s a).1 else best)
    rw [e, minH_congr l _ (fun a' ha => h a' (by simp [ha]))]
theorem lowF_eq (s : ByteArray) (nm : Nat → Int) : ∀ n m x, s.size + 1 - x ≤ n → s.size + 1 - x ≤ m → x ≤ s.size → lowF s nm n x = lowF s nm m x
  | 0, m, x, h1, h2, h3 => by omega
  | n + 1, 0, x, h1, h2, h3 => by omega
  | n + 1, m + 1, x, h1, h2, h3 => by
    unfold lowF
    refine minH_congr _ _ (fun a ha f hf => ?_)
    have hb := sts_bd ha
    have hf' := fe_mem hf
    have hl := isF_lt hf'.1
    exact lowF_eq s nm n m (f + 1) (by omega) (by omega) (by omega)
def low (s : ByteArray) (nm : Nat → Int) (x : Nat) : Int := lowF s nm (s.size + 1) x
theorem low_step {s : ByteArray} {nm : Nat → Int} {x : Nat} : low s nm x = minH s nm (low s nm) (sts s x) 99 := by
  show minH s nm (lowF s nm s.size) (sts s x) 99 = _
  refine minH_congr _ _ (fun a ha f hf => ?_)
  have hb := sts_bd ha
  have hf' := fe_mem hf
  have hl := isF_lt hf'.1
  exact lowF_eq s nm s.size (s.size + 1) (f + 1) (by omega) (by omega) (by omega)
/-- the heights of names are such as are reckoned -/
def Nms (nm : Nat → Int) : Prop := ∀ i, 0 ≤ nm i ∧ nm i ≤ 99
theorem facH_bd {s : ByteArray} {nm rec : Nat → Int} (h : Nms nm) (hr : ∀ x, 0 ≤ rec x ∧ rec x ≤ 99) (f : Nat) : 0 ≤ facH s nm rec f ∧ facH s nm rec f ≤ 100 := by
  unfold facH; split
  · have := h (bt s f - 65).toNat; omega
  split
  · have := hr (f + 1); omega
  · omega
theorem topH_bd {s : ByteArray} {nm rec : Nat → Int} (h : Nms nm) (hr : ∀ x, 0 ≤ rec x ∧ rec x ≤ 99) : ∀ (L : List Nat) (top : Int), 0 ≤ top → top ≤ 100 → 0 ≤ topH s nm rec L top ∧ topH s nm rec L top ≤ 100
  | [], top, h1, h2 => ⟨h1, h2⟩
  | f :: L, top, h1, h2 => by
    have := facH_bd (s := s) h hr f
    exact topH_bd h hr L (max top (facH s nm rec f)) (by omega) (by omega)
theorem altH_bd {s : ByteArray} {nm rec : Nat → Int} (h : Nms nm) (hr : ∀ x, 0 ≤ rec x ∧ rec x ≤ 99) (L : List Nat) : 0 ≤ altH s nm rec L ∧ altH s nm rec L ≤ 99 := by
  have := topH_bd (s := s) h hr L 0 (by omega) (by omega)
  unfold altH; split <;> omega
theorem minH_bd {s : ByteArray} {nm rec : Nat → Int} (h : Nms nm) (hr : ∀ x, 0 ≤ rec x ∧ rec x ≤ 99) : ∀ (l : List Nat) (best : Int), 0 ≤ best → best ≤ 99 → 0 ≤ minH s nm rec l best ∧ minH s nm rec l best ≤ 99
  | [], b, h1, h2 => ⟨h1, h2⟩
  | a :: l, b, h1, h2 => by
    have := altH_bd (s := s) h hr (fe s a).1
    refine minH_bd h hr l (if altH s nm rec (fe s a).1 < b then altH s nm rec (fe s a).1 else b) ?_ ?_ <;> split <;> omega
theorem lowF_bd {s : ByteArray} {nm : Nat → Int} (h : Nms nm) : ∀ n x, 0 ≤ lowF s nm n x ∧ lowF s nm n x ≤ 99
  | 0, x => by simp [lowF]
  | n + 1, x => minH_bd h (lowF_bd h n) _ _ (by omega) (by omega)
theorem low_bd {s : ByteArray} {nm : Nat → Int} (h : Nms nm) (x : Nat) : 0 ≤ low s nm x ∧ low s nm x ≤ 99 := lowF_bd h _ x
end Go.Proofs.Ytnfaiaoipeholaa
