/- TrF TrG TrH TrI ParH -/
import Derived.Test.YtnfaiaoipeholaaGreatDoorAa29
import Derived.Test.YtnfaiaoipeholaaGreatDoorAa28
namespace Go.Proofs.YtnfaiaoipeholaaGreatDoor
section
variable {s t : ByteArray}
theorem mtK_plain {j : Nat} {d : Int} (h : bt t j ≠ 0) (h1 : cO (bt t j) = false) (h2 : cX (bt t j) = false) : mtD t j d = mtD t (j + 1) d := by
  rw [mtD_step (bt_lt h), if_neg (by simp [h1]), if_neg (by simp [h2])]
theorem mtK_open {j : Nat} {d : Int} (h1 : cO (bt t j) = true) : mtD t j d = mtD t (j + 1) (d + 1) := by
  rw [mtD_step (bt_lt (by intro h0; rw [h0] at h1; exact absurd h1 (by decide))), if_pos h1]
theorem mtK_close {j : Nat} {d : Int} (h2 : cX (bt t j) = true) : mtD t j d = if d - 1 = 0 then j else mtD t (j + 1) (d - 1) := by
  have h1 : cO (bt t j) = false := (close_not h2).2.2.1
  rw [mtD_step (bt_lt (by intro h0; rw [h0] at h2; exact absurd h2 (by decide))), if_neg (by simp [h1]), if_pos h2]
/-- a byte that is no bracket, no comma -/
def Pl (c : Int) : Prop := c ≠ 0 ∧ cO c = false ∧ cX c = false ∧ c ≠ 44
theorem pl_dig {d : Nat} (h : d ≤ 9) : Pl (48 + (d : Int)) := by
  refine ⟨by omega, ?_, ?_, by omega⟩
  · cases e : cO (48 + (d : Int))
    · rfl
    · have := cO_vals e; omega
  · cases e : cX (48 + (d : Int))
    · rfl
    · have := cX_vals e; omega
theorem pl_let {c : Int} (h : cL c = true) : Pl c := by
  have hv : 97 ≤ c ∧ c ≤ 122 := by simpa [cL] using h
  have := plain_not (c := c) (.inl (by simp [h]))
  exact ⟨by omega, this.1, this.2, by omega⟩
theorem pl_nam {c : Int} (h : cN c = true) : Pl c := by
  have hv : 65 ≤ c ∧ c ≤ 90 := by simpa [cN] using h
  have := plain_not (c := c) (.inl (by simp [h]))
  exact ⟨by omega, this.1, this.2, by omega⟩
theorem pl_com : cO 44 = false ∧ cX 44 = false ∧ (44 : Int) ≠ 0 := by decide
/-- over these bytes the depth comes back -/
def Bal (t : ByteArray) (L : List Int) : Prop := ∀ i (d : Int), 1 ≤ d → At t i L → mtD t i d = mtD t (i + L.length) d
theorem Bal.nil : Bal t [] := fun _ _ _ _ => rfl
theorem Bal.plain {c : Int} {L : List Int} (h : c ≠ 0) (h1 : cO c = false) (h2 : cX c = false) (g : Bal t L) : Bal t (c :: L) := fun i d hd hA => by
  have hb := hA.head
  rw [mtK_plain (by rw [hb]; exact h) (by rw [hb]; exact h1) (by rw [hb]; exact h2), g (i + 1) d hd hA.tail]
  simp only [List.length_cons]; congr 1; omega
theorem Bal.app {A B : List Int} (h : Bal t A) (g : Bal t B) : Bal t (A ++ B) := fun i d hd hA => by
  rw [h i d hd hA.left, g _ d hd hA.right]
  simp only [List.length_append]; congr 1; omega
theorem Bal.brk {o c : Int} {L : List Int} (ho : cO o = true) (hc : cX c = true) (g : Bal t L) : Bal t (o :: (L ++ [c])) := fun i d hd hA => by
  have hb := hA.head
  have hA2 := hA.tail
  have hcl : bt t ((i + 1 + L.length : Nat) : Int) = c := hA2.right.head
  rw [mtK_open (by rw [hb]; exact ho), g (i + 1) (d + 1) (by omega) hA2.left, mtK_close (by rw [hcl]; exact hc), if_neg (by omega)]
  simp only [List.length_cons, List.length_append, List.length_nil]
  rw [show d + 1 - 1 = d by omega]; congr 1; omega
mutual
theorem TE.bal : ∀ (e : TE) (x : Nat), e.ok s x → Bal t e.rd
  | .mk d fs, x, h => by
    simp only [TE.ok] at h
    obtain ⟨hd, a, _, h2⟩ := h
    simp only [TE.rd]
    have hp := pl_dig hd
    exact Bal.plain hp.1 hp.2.1 hp.2.2.1 (TFs.bal fs _ h2)
theorem TFs.bal : ∀ (fs : TFs) (l : List Nat), fs.ok s l → Bal t fs.rd
  | .nil, l, h => by simp only [TFs.rd]; exact Bal.nil
  | .cons f fs, l, h => by
    simp only [TFs.ok] at h
    obtain ⟨p, q, _, h1, h2⟩ := h
    simp only [TFs.rd]
    exact (TF.bal f p h1).app (TFs.bal fs q h2)
theorem TF.bal : ∀ (f : TF) (p : Nat), f.ok s p → Bal t f.rd
  | .lt c, p, h => by
    simp only [TF.ok] at h
    obtain ⟨h1, h2⟩ := h
    simp only [TF.rd]
    have hp := pl_let (c := c) (by rw [h2]; exact h1)
    exact Bal.plain hp.1 hp.2.1 hp.2.2.1 Bal.nil
  | .nm c e, p, h => by
    simp only [TF.ok] at h
    obtain ⟨h1, h2, h3⟩ := h
    simp only [TF.rd]
    have hp := pl_nam (c := c) (by rw [h2]; exact h1)
    exact Bal.plain hp.1 hp.2.1 hp.2.2.1 (Bal.brk (by decide) (by decide) (TE.bal e _ h3))
  | .br o es, p, h => by
    simp only [TF.ok] at h
    obtain ⟨h1, h2, _, h3⟩ := h
    have hc0 : cC o ≠ 0 := by rw [h2]; simpa [cO] using h1
    simp only [TF.rd]
    refine Bal.brk (by rw [h2]; exact h1) (cX_cC _ hc0) ?_
    cases es with
    | nil => simp only [TEs.rd]; exact Bal.nil
    | cons e es =>
      simp only [TEs.ok] at h3
      simp only [TEs.rd]
      exact (TE.bal e _ h3.1).app (TEs.bal es _ h3.2)
theorem TEs.bal : ∀ (es : TEs) (x : Nat), es.ok s x → Bal t es.rt
  | .nil, x, h => by simp only [TEs.rt]; exact Bal.nil
  | .cons e es, x, h => by
    simp only [TEs.ok] at h
    simp only [TEs.rt]
    exact Bal.plain pl_com.2.2 pl_com.1 pl_com.2.1 ((TE.bal e _ h.1).app (TEs.bal es _ h.2))
end
theorem TEs.balr (es : TEs) (x : Nat) (h : es.ok s x) : Bal t es.rd := by
  cases es with
  | nil => simp only [TEs.rd]; exact Bal.nil
  | cons e es =>
    simp only [TEs.ok] at h
    simp only [TEs.rd]
    exact (TE.bal e _ h.1).app (TEs.bal es _ h.2)
/-- a bracket closes behind what is in it -/
theorem mt_brk {o c : Int} {L : List Int} {i : Nat} (ho : cO o = true) (hc : cX c = true) (g : Bal t L) (hA : At t i (o :: (L ++ [c]))) : mt t i = i + 1 + L.length := by
  have hb := hA.head
  have hA2 := hA.tail
  have hcl : bt t ((i + 1 + L.length : Nat) : Int) = c := hA2.right.head
  unfold mt
  rw [mtK_open (by rw [hb]; exact ho), g (i + 1) (0 + 1) (by omega) hA2.left, mtK_close (by rw [hcl]; exact hc), if_pos (by omega)]

/-- the elements' spans, up to an end: from this place on, the one that is open having begun there -/
def spF (t : ByteArray) (e : Nat) : Nat → Nat → Nat → List (Nat × Nat)
  | 0, _, fr => [(fr, e)]
  | n + 1, j, fr => if e ≤ j then [(fr, e)]
    else if cO (bt t j) = true then spF t e n (mt t j + 1) fr
    else if bt t j = 44 then (fr, j) :: spF t e n (j + 1) (j + 1)
    else spF t e n (j + 1) fr
/-- the spans of what is in the bracket that opens here -/
def elS (t : ByteArray) (i : Nat) : List (Nat × Nat) := if i + 1 < mt t i then spF t (mt t i) t.size (i + 1) (i + 1) else []
/-- over these bytes nothing is cut -/
def Cut0 (t : ByteArray) (L : List Int) : Prop := ∀ e n i fr, At t i L → i + L.length ≤ e → L.length ≤ n → ∃ n', n - L.length ≤ n' ∧ spF t e n i fr = spF t e n' (i + L.length) fr
theorem Cut0.nil : Cut0 t [] := fun _ n _ _ _ _ _ => ⟨n, by simp, rfl⟩
theorem Cut0.app {A B : List Int} (h : Cut0 t A) (g : Cut0 t B) : Cut0 t (A ++ B) := fun e n i fr hA he hn => by
  simp only [List.length_append] at he hn ⊢
  obtain ⟨n1, q1, q2⟩ := h e n i fr hA.left (by omega) (by omega)
  obtain ⟨n2, q3, q4⟩ := g e n1 (i + A.length) fr hA.right (by omega) (by omega)
  exact ⟨n2, by omega, by rw [q2, q4]; congr 1; omega⟩
theorem Cut0.plain {c : Int} {L : List Int} (h : Pl c) (g : Cut0 t L) : Cut0 t (c :: L) := fun e n i fr hA he hn => by
  simp only [List.length_cons] at he hn ⊢
  obtain ⟨m, rfl⟩ : ∃ m, n = m + 1 := ⟨n - 1, by omega⟩
  obtain ⟨n2, q3, q4⟩ := g e m (i + 1) fr hA.tail (by omega) (by omega)
  have hb := hA.head
  refine ⟨n2, by omega, ?_⟩
  conv => lhs; unfold spF
  rw [if_neg (by omega), if_neg (by rw [hb, h.2.1]; decide), if_neg (by rw [hb]; exact h.2.2.2), q4]
  congr 1; omega
theorem Cut0.brk {o c : Int} {L : List Int} (ho : cO o = true) (hc : cX c = true) (g : Bal t L) : Cut0 t (o :: (L ++ [c])) := fun e n i fr hA he hn => by
  simp only [List.length_cons, List.length_append, List.length_nil] at he hn ⊢
  obtain ⟨m, rfl⟩ : ∃ m, n = m + 1 := ⟨n - 1, by omega⟩
  have hb := hA.head
  refine ⟨m, by omega, ?_⟩
  conv => lhs; unfold spF
  rw [if_neg (by omega), if_pos (by rw [hb]; exact ho), mt_brk ho hc g hA]
  congr 1; omega
mutual
theorem TE.cut : ∀ (e : TE) (x : Nat), e.ok s x → Cut0 t e.rd
  | .mk d fs, x, h => by
    simp only [TE.ok] at h
    obtain ⟨hd, a, _, h2⟩ := h
    simp only [TE.rd]
    exact Cut0.plain (pl_dig hd) (TFs.cut fs _ h2)
theorem TFs.cut : ∀ (fs : TFs) (l : List Nat), fs.ok s l → Cut0 t fs.rd
  | .nil, l, h => by simp only [TFs.rd]; exact Cut0.nil
  | .cons f fs, l, h => by
    simp only [TFs.ok] at h
    obtain ⟨p, q, _, h1, h2⟩ := h
    simp only [TFs.rd]
    exact (TF.cut f p h1).app (TFs.cut fs q h2)
theorem TF.cut : ∀ (f : TF) (p : Nat), f.ok s p → Cut0 t f.rd
  | .lt c, p, h => by
    simp only [TF.ok] at h
    obtain ⟨h1, h2⟩ := h
    simp only [TF.rd]
    exact Cut0.plain (pl_let (by rw [h2]; exact h1)) Cut0.nil
  | .nm c e, p, h => by
    simp only [TF.ok] at h
    obtain ⟨h1, h2, h3⟩ := h
    simp only [TF.rd]
    exact Cut0.plain (pl_nam (by rw [h2]; exact h1)) (Cut0.brk (by decide) (by decide) (TE.bal e _ h3))
  | .br o es, p, h => by
    simp only [TF.ok] at h
    obtain ⟨h1, h2, _, h3⟩ := h
    have hc0 : cC o ≠ 0 := by rw [h2]; simpa [cO] using h1
    simp only [TF.rd]
    exact Cut0.brk (by rw [h2]; exact h1) (cX_cC _ hc0) (TEs.balr es _ h3)
end
/-- the spans of elements -/
def TEs.sp : TEs → Nat → List (Nat × Nat)
  | .nil, _ => []
  | .cons e es, i => (i, i + e.rd.length) :: es.sp (i + e.rd.length + 1)
theorem TEs.spF_ : ∀ (es : TEs) (e : TE) (x n i : Nat), e.ok s x → es.ok s x → At t i (e.rd ++ es.rt) → (e.rd ++ es.rt).length ≤ n → spF t (i + (e.rd ++ es.rt).length) n i i = (i, i + e.rd.length) :: es.sp (i + e.rd.length + 1)
  | .nil, e, x, n, i, h1, h2, hA, hn => by
    simp only [TEs.rt, List.append_nil, TEs.sp] at hA hn ⊢
    obtain ⟨n1, q1, q2⟩ := TE.cut (t := t) e x h1 (i + e.rd.length) n i i hA (Nat.le_refl _) hn
    rw [q2]
    cases n1 with
    | zero => rfl
    | succ n1 => unfold spF; rw [if_pos (Nat.le_refl _)]
  | .cons e2 es, e, x, n, i, h1, h2, hA, hn => by
    simp only [TEs.ok] at h2
    simp only [TEs.rt, List.length_append, List.length_cons, TEs.sp] at hA hn ⊢
    have hA2 := hA.right
    have hb : bt t ((i + e.rd.length : Nat) : Int) = 44 := hA2.head
    obtain ⟨n1, q1, q2⟩ := TE.cut (t := t) e x h1 (i + (e.rd.length + (e2.rd.length + es.rt.length + 1))) n i i hA.left (by omega) (by omega)
    have ih := TEs.spF_ es e2 x (n1 - 1) (i + e.rd.length + 1) h2.1 h2.2 hA2.tail (by simp only [List.length_append]; omega)
    obtain ⟨n2, hn2⟩ : ∃ n2, n1 = n2 + 1 := ⟨n1 - 1, by omega⟩
    subst hn2
    rw [q2]
    conv => lhs; unfold spF
    rw [if_neg (by omega), if_neg (by rw [hb]; decide), if_pos hb]
    simp only [List.length_append, Nat.add_sub_cancel] at ih
    rw [show i + (e.rd.length + (e2.rd.length + es.rt.length + 1)) = i + e.rd.length + 1 + (e2.rd.length + es.rt.length) by omega, ih]
/-- the spans of a bracket's elements -/
theorem elS_brk {o c : Int} {es : TEs} {i x : Nat} (ho : cO o = true) (hc : cX c = true) (h : es.ok s x) (hA : At t i (o :: (es.rd ++ [c]))) : elS t i = es.sp (i + 1) := by
  have hm := mt_brk ho hc (TEs.balr (t := t) es x h) hA
  unfold elS
  rw [hm]
  cases es with
  | nil => simp [TEs.rd, TEs.sp]
  | cons e es =>
    simp only [TEs.ok] at h
    have hrd : (TEs.cons e es).rd = e.rd ++ es.rt := by simp only [TEs.rd]
    have hpos := TE.rd_pos e
    have hl : (e.rd ++ es.rt).length = e.rd.length + es.rt.length := by simp
    rw [hrd] at hA
    rw [if_pos (by rw [hrd]; omega), hrd]
    simp only [TEs.sp]
    have hcl : bt t ((i + 1 + (e.rd ++ es.rt).length : Nat) : Int) = c := hA.tail.right.head
    have hlt := bt_lt (s := t) (p := i + 1 + (e.rd ++ es.rt).length) (by rw [hcl]; intro h0; rw [h0] at hc; exact absurd hc (by decide))
    exact TEs.spF_ es e x t.size (i + 1) h.1 h.2 hA.tail.left (by omega)
end
end Go.Proofs.YtnfaiaoipeholaaGreatDoor

namespace Go.Proofs.YtnfaiaoipeholaaGreatDoor
section
variable {s t : ByteArray}
theorem seg_At : ∀ {L : List Int} {i : Nat}, At t i L → seg t i (i + L.length) = L
  | [], i, _ => by simp [seg_self]
  | x :: L, i, h => by
    have ih := seg_At h.tail
    rw [seg_app (j := i + 1) (by omega) (by simp), seg_one, h.head, show i + (x :: L).length = i + 1 + L.length by simp; omega, ih]; rfl
/-- what stands behind -/
theorem seg_rest {L : List Int} {i : Nat} (h : At t i L) (hz : i + L.length ≤ t.size) : seg t i t.size = L ++ seg t (i + L.length) t.size := by
  rw [seg_app (j := i + L.length) (by omega) hz, seg_At h]
theorem seg_front {L : List Int} {i : Nat} (h : At t i L) : seg t 0 (i + L.length) = seg t 0 i ++ L := by
  rw [seg_app (j := i) (by omega) (by omega), seg_At h]
/-- elements with commas between -/
def jnS (t : ByteArray) : List (Nat × Nat) → List Int
  | [] => []
  | [p] => seg t p.1 p.2
  | p :: q :: r => seg t p.1 p.2 ++ (44 :: jnS t (q :: r))
/-- the list that opens here without an element -/
def woS (t : ByteArray) (i k : Nat) : List Int := seg t 0 (i + 1) ++ (jnS t ((elS t i).eraseIdx k) ++ seg t (mt t i) t.size)
/-- places of a name -/
def nmS (t : ByteArray) (c : Int) (i n : Nat) : List Nat := (List.range' i n).filter fun j => decide (bt t (j : Nat) = c)
/-- the name here, replaced by each of the same name within -/
def wnS (t : ByteArray) (i : Nat) : List (List Int) := (nmS t (bt t i) (i + 2) (mt t (i + 1) - (i + 2))).map fun j => seg t 0 i ++ (seg t j (mt t (j + 1) + 1) ++ seg t (mt t (i + 1) + 1) t.size)
/-- the steps at a place -/
def stS (t : ByteArray) (i : Nat) : List (List Int) :=
  if cN (bt t i) = true then wnS t i
  else if bt t i = 91 ∧ (elS t i).length = 1 then [woS t i 0]
  else if bt t i = 123 ∨ (bt t i = 60 ∧ 1 < (elS t i).length) then (List.range (elS t i).length).map (woS t i)
  else []
def rgS (t : ByteArray) (i n : Nat) : List (List Int) := (List.range' i n).flatMap (stS t)
theorem rgS_add (t : ByteArray) (i n m : Nat) : rgS t i (n + m) = rgS t i n ++ rgS t (i + n) m := by
  unfold rgS
  rw [← List.range'_append_1, List.flatMap_append]
theorem rgS_one (t : ByteArray) (i : Nat) : rgS t i 1 = stS t i := by simp [rgS]
theorem nmS_add (t : ByteArray) (c : Int) (i n m : Nat) : nmS t c i (n + m) = nmS t c i n ++ nmS t c (i + n) m := by
  unfold nmS
  rw [← List.range'_append_1, List.filter_append]
theorem nmS_one (t : ByteArray) (c : Int) (i : Nat) : nmS t c i 1 = if bt t i = c then [i] else [] := by
  unfold nmS
  simp only [List.range'_one]
  by_cases h : bt t i = c
  · rw [if_pos h, List.filter_cons_of_pos (by simpa using h)]; rfl
  · rw [if_neg h, List.filter_cons_of_neg (by simpa using h)]; rfl
/-- no step here -/
theorem stS_no {i : Nat} (h1 : cN (bt t i) = false) (h2 : bt t i ≠ 91) (h3 : bt t i ≠ 123) (h4 : bt t i ≠ 60) : stS t i = [] := by
  unfold stS
  rw [if_neg (by simp [h1]), if_neg (fun h => h2 h.1), if_neg (fun h => by rcases h with h | h; exact h3 h; exact h4 h.1)]
theorem dig_no {d : Nat} (h : d ≤ 9) : cN (48 + (d : Int)) = false ∧ (48 + (d : Int)) ≠ 91 ∧ (48 + (d : Int)) ≠ 123 ∧ (d ≤ 9) := ⟨by simp [cN]; omega, by omega, by omega, h⟩
theorem let_nn {c : Int} (h : cL c = true) : cN c = false ∧ c ≠ 91 ∧ c ≠ 123 ∧ c ≠ 60 := by
  have hv : 97 ≤ c ∧ c ≤ 122 := by simpa [cL] using h
  exact ⟨by simp [cN]; omega, by omega, by omega, by omega⟩
theorem cls_no {c : Int} (h : cX c = true) : cN c = false ∧ c ≠ 91 ∧ c ≠ 123 ∧ c ≠ 60 := by
  rcases cX_vals h with rfl | rfl | rfl | rfl <;> decide
/-- the names of a kind in a text, with their brackets -/
def inS (t : ByteArray) (c : Int) (i n : Nat) : List (List Int) := (nmS t c i n).map fun j => seg t j (mt t (j + 1) + 1)
theorem inS_add (t : ByteArray) (c : Int) (i n m : Nat) : inS t c i (n + m) = inS t c i n ++ inS t c (i + n) m := by
  unfold inS; rw [nmS_add, List.map_append]
theorem inS_skip {c : Int} {i : Nat} (h : bt t i ≠ c) : inS t c i 1 = [] := by
  unfold inS; rw [nmS_one, if_neg h]; rfl
theorem mt_nm {c : Int} {e : TE} {i x : Nat} (h : e.ok s x) (hA : At t i (c :: 40 :: (e.rd ++ [41]))) : mt t (i + 1) = i + 2 + e.rd.length := by
  rw [mt_brk (by decide) (by decide) (TE.bal (t := t) e x h) hA.tail]
mutual
theorem TE.inS_ {c : Int} (hc : cN c = true) : ∀ (e : TE) (x i : Nat), e.ok s x → At t i e.rd → inS t c i e.rd.length = (e.inn c).map TF.rd
  | .mk d fs, x, i, h, hA => by
    simp only [TE.ok] at h
    obtain ⟨hd, a, _, h2⟩ := h
    simp only [TE.rd, TE.inn, List.length_cons] at hA ⊢
    have hv : 65 ≤ c ∧ c ≤ 90 := by simpa [cN] using hc
    rw [Nat.add_comm, inS_add, inS_skip (by rw [hA.head]; omega), TFs.inS_ hc fs _ (i + 1) h2 hA.tail]; rfl
theorem TFs.inS_ {c : Int} (hc : cN c = true) : ∀ (fs : TFs) (l : List Nat) (i : Nat), fs.ok s l → At t i fs.rd → inS t c i fs.rd.length = (fs.inn c).map TF.rd
  | .nil, l, i, h, hA => by simp [TFs.rd, TFs.inn, inS, nmS]
  | .cons f fs, l, i, h, hA => by
    simp only [TFs.ok] at h
    obtain ⟨p, q, _, h1, h2⟩ := h
    simp only [TFs.rd, TFs.inn, List.length_append, List.map_append] at hA ⊢
    rw [inS_add, TF.inS_ hc f p i h1 hA.left, TFs.inS_ hc fs q _ h2 hA.right]
theorem TF.inS_ {c : Int} (hc : cN c = true) : ∀ (f : TF) (p i : Nat), f.ok s p → At t i f.rd → inS t c i f.rd.length = (f.inn c).map TF.rd
  | .lt c', p, i, h, hA => by
    simp only [TF.ok] at h
    obtain ⟨h1, h2⟩ := h
    simp only [TF.rd, TF.inn] at hA ⊢
    have hv : 65 ≤ c ∧ c ≤ 90 := by simpa [cN] using hc
    have hw : 97 ≤ bt s p ∧ bt s p ≤ 122 := by simpa [cL] using h1
    exact inS_skip (by rw [hA.head]; omega)
  | .nm c' e, p, i, h, hA => by
    simp only [TF.ok] at h
    obtain ⟨h1, h2, h3⟩ := h
    have hm := mt_nm h3 (by simpa only [TF.rd] using hA)
    have hsg := seg_At hA
    simp only [TF.rd, TF.inn, List.map_append] at hA ⊢
    have hv : 65 ≤ c ∧ c ≤ 90 := by simpa [cN] using hc
    have hl : (c' :: 40 :: (e.rd ++ [41])).length = 1 + (1 + (e.rd.length + 1)) := by simp; omega
    have h41 : bt t ((i + 1 + 1 + e.rd.length : Nat) : Int) = 41 := hA.tail.tail.right.head
    rw [hl, inS_add, inS_add, inS_add, inS_skip (i := i + 1) (by rw [hA.tail.head]; omega), TE.inS_ hc e _ (i + 1 + 1) h3 hA.tail.tail.left, inS_skip (i := i + 1 + 1 + e.rd.length) (by rw [h41]; omega)]
    have hfst : inS t c i 1 = ((if c' = c then [TF.nm c' e] else []) : List TF).map TF.rd := by
      unfold inS
      rw [nmS_one, hA.head]
      by_cases hcc : c' = c
      · rw [if_pos hcc, if_pos hcc]
        simp only [List.map_cons, List.map_nil]
        rw [hm]
        simp only [TF.rd] at hsg
        rw [show i + 2 + e.rd.length + 1 = i + (c' :: 40 :: (e.rd ++ [41])).length by rw [hl]; omega, hsg]
        simp only [TF.rd]
      · rw [if_neg hcc, if_neg hcc]; rfl
    rw [hfst]; simp
  | .br o es, p, i, h, hA => by
    simp only [TF.ok] at h
    obtain ⟨h1, h2, _, h3⟩ := h
    have hc0 : cC o ≠ 0 := by rw [h2]; simpa [cO] using h1
    simp only [TF.rd, TF.inn] at hA ⊢
    have hv : 65 ≤ c ∧ c ≤ 90 := by simpa [cN] using hc
    have hov := cO_vals h1
    have hcv := cC_vals o
    have hl : (o :: (es.rd ++ [cC o])).length = 1 + (es.rd.length + 1) := by simp; omega
    have hcl : bt t ((i + 1 + es.rd.length : Nat) : Int) = cC o := hA.tail.right.head
    have hes : inS t c (i + 1) es.rd.length = (es.inn c).map TF.rd := by
      have hA2 := hA.tail.left
      cases es with
      | nil => simp [TEs.rd, TEs.inn, inS, nmS]
      | cons e es =>
        simp only [TEs.ok] at h3
        simp only [TEs.rd, TEs.inn, List.length_append, List.map_append] at hA2 ⊢
        rw [inS_add, TE.inS_ hc e _ _ h3.1 hA2.left, TEs.inS_ hc es _ _ h3.2 hA2.right]
    rw [hl, inS_add, inS_add, inS_skip (by rw [hA.head]; omega), hes, inS_skip (by rw [hcl]; omega)]; simp
theorem TEs.inS_ {c : Int} (hc : cN c = true) : ∀ (es : TEs) (x i : Nat), es.ok s x → At t i es.rt → inS t c i es.rt.length = (es.inn c).map TF.rd
  | .nil, x, i, h, hA => by simp [TEs.rt, TEs.inn, inS, nmS]
  | .cons e es, x, i, h, hA => by
    simp only [TEs.ok] at h
    simp only [TEs.rt, TEs.inn, List.length_cons, List.length_append, List.map_append] at hA ⊢
    have hv : 65 ≤ c ∧ c ≤ 90 := by simpa [cN] using hc
    rw [show e.rd.length + es.rt.length + 1 = 1 + (e.rd.length + es.rt.length) by omega, inS_add, inS_add, inS_skip (by rw [hA.head]; omega), TE.inS_ hc e _ _ h.1 hA.tail.left, TEs.inS_ hc es _ _ h.2 hA.tail.right]; rfl
end
end
end Go.Proofs.YtnfaiaoipeholaaGreatDoor

namespace Go.Proofs.YtnfaiaoipeholaaGreatDoor
section
variable {s t : ByteArray}
/-- a text with a piece in it -/
def pcS (t : ByteArray) (i j : Nat) (L : List Int) : List Int := seg t 0 i ++ (L ++ seg t j t.size)
/-- elements' spans, joined -/
theorem jnS_rt : ∀ (es : TEs) (e : TE) (i : Nat), At t i (e.rd ++ es.rt) → jnS t ((TEs.cons e es).sp i) = e.rd ++ es.rt
  | .nil, e, i, hA => by
    simp only [TEs.rt, List.append_nil] at hA
    simp only [TEs.sp, jnS, TEs.rt, List.append_nil]
    exact seg_At hA
  | .cons e2 es, e, i, hA => by
    simp only [TEs.rt] at hA
    have ih := jnS_rt es e2 (i + e.rd.length + 1) hA.right.tail
    simp only [TEs.sp] at ih ⊢
    simp only [jnS, TEs.rt]
    rw [seg_At hA.left, ih]
theorem jnS_rd (es : TEs) (i : Nat) (hA : At t i es.rd) : jnS t (es.sp i) = es.rd := by
  cases es with
  | nil => simp [TEs.sp, jnS, TEs.rd]
  | cons e es =>
    simp only [TEs.rd] at hA ⊢
    exact jnS_rt es e i hA
theorem sp_len : ∀ (es : TEs) (i : Nat), (es.sp i).length = es.len
  | .nil, i => by simp [TEs.sp, TEs.len]
  | .cons e es, i => by simp [TEs.sp, TEs.len, sp_len es]
/-- with commas ahead -/
def jtS (t : ByteArray) : List (Nat × Nat) → List Int
  | [] => []
  | p :: r => 44 :: (seg t p.1 p.2 ++ jtS t r)
theorem jnS_cons (p : Nat × Nat) : ∀ r, jnS t (p :: r) = seg t p.1 p.2 ++ jtS t r
  | [] => by simp [jnS, jtS]
  | q :: r => by simp only [jnS, jtS]; rw [jnS_cons q r]
theorem jtS_del : ∀ (es : TEs) (i k : Nat), At t i es.rt → jtS t ((es.sp (i + 1)).eraseIdx k) = (es.del k).rt
  | .nil, i, k, hA => by simp [TEs.sp, TEs.del, TEs.rt, jtS]
  | .cons e es, i, 0, hA => by
    simp only [TEs.rt] at hA
    have h0 : jtS t (es.sp (i + 1 + e.rd.length + 1)) = es.rt := by
      have := jtS_all es (i + 1 + e.rd.length) hA.tail.right
      exact this
    simp only [TEs.sp, List.eraseIdx_cons_zero, TEs.del]
    exact h0
  | .cons e es, i, k + 1, hA => by
    simp only [TEs.rt] at hA
    have ih := jtS_del es (i + 1 + e.rd.length) k hA.tail.right
    simp only [TEs.sp, List.eraseIdx_cons_succ, TEs.del, TEs.rt, jtS]
    rw [seg_At hA.tail.left, ih]
where
  jtS_all : ∀ (es : TEs) (i : Nat), At t i es.rt → jtS t (es.sp (i + 1)) = es.rt
  | .nil, i, hA => by simp [TEs.sp, TEs.rt, jtS]
  | .cons e es, i, hA => by
    simp only [TEs.rt] at hA
    have ih := jtS_all es (i + 1 + e.rd.length) hA.tail.right
    simp only [TEs.sp, TEs.rt, jtS]
    rw [seg_At hA.tail.left, ih]
theorem jnS_del (es : TEs) (i k : Nat) (hA : At t i es.rd) : jnS t ((es.sp i).eraseIdx k) = (es.del k).rd := by
  cases es with
  | nil => simp [TEs.sp, TEs.del, TEs.rd, jnS]
  | cons e es =>
    simp only [TEs.rd] at hA
    cases k with
    | zero =>
      simp only [TEs.sp, List.eraseIdx_cons_zero, TEs.del]
      cases es with
      | nil => simp [TEs.sp, TEs.rd, jnS]
      | cons e2 es =>
        simp only [TEs.rt] at hA
        exact jnS_rd _ _ (by simp only [TEs.rd]; exact hA.right.tail)
    | succ k =>
      simp only [TEs.sp, List.eraseIdx_cons_succ, TEs.del, TEs.rd]
      rw [jnS_cons, seg_At hA.left, jtS_del es (i + e.rd.length) k hA.right]
/-- a bracket's own steps -/
theorem woS_brk {o c : Int} {es : TEs} {i k x : Nat} (ho : cO o = true) (hc : cX c = true) (h : es.ok s x) (hA : At t i (o :: (es.rd ++ [c]))) (hz : i + (o :: (es.rd ++ [c])).length ≤ t.size) :
    woS t i k = pcS t i (i + (o :: (es.rd ++ [c])).length) (o :: ((es.del k).rd ++ [c])) := by
  have hm := mt_brk ho hc (TEs.balr (t := t) es x h) hA
  have hcl : At t (i + 1 + es.rd.length) [c] := hA.tail.right
  have hl : (o :: (es.rd ++ [c])).length = es.rd.length + 2 := by simp
  unfold woS pcS
  rw [elS_brk ho hc h hA, jnS_del es (i + 1) k hA.tail.left, hm, seg_rest hcl (by simp; omega)]
  have h1 : seg t 0 (i + 1) = seg t 0 i ++ [o] := by
    have hh : At t i [o] := At.cons hA.head (At.nil _)
    have := seg_front hh
    simpa using this
  rw [h1, show i + 1 + es.rd.length + [c].length = i + (o :: (es.rd ++ [c])).length by simp; omega]
  simp
theorem pc_left {A B C : List Int} {i : Nat} (hA : At t i (A ++ B)) (hz : i + (A ++ B).length ≤ t.size) : pcS t i (i + A.length) C = pcS t i (i + (A ++ B).length) (C ++ B) := by
  unfold pcS
  rw [seg_rest hA.right (by simp at hz; omega), show i + A.length + B.length = i + (A ++ B).length by simp; omega]
  simp
theorem pc_right {A C : List Int} {i j : Nat} (hA : At t i A) : pcS t (i + A.length) j C = pcS t i j (A ++ C) := by
  unfold pcS
  rw [seg_front hA]; simp
mutual
theorem TE.stS_ : ∀ (e : TE) (x i : Nat), e.ok s x → At t i e.rd → i + e.rd.length ≤ t.size → rgS t i e.rd.length = e.st.map fun e' => pcS t i (i + e.rd.length) e'.rd
  | .mk d fs, x, i, h, hA, hz => by
    simp only [TE.ok] at h
    obtain ⟨hd, a, _, h2⟩ := h
    simp only [TE.rd, TE.st, List.length_cons, List.map_map] at hA hz ⊢
    have hno := dig_no hd
    rw [show fs.rd.length + 1 = 1 + fs.rd.length by omega, rgS_add, rgS_one, stS_no (by rw [hA.head]; exact hno.1) (by rw [hA.head]; exact hno.2.1) (by rw [hA.head]; exact hno.2.2.1) (by rw [hA.head]; omega), TFs.stS_ fs _ (i + 1) h2 hA.tail (by omega), List.nil_append]
    refine List.map_congr_left (fun fs' _ => ?_)
    simp only [Function.comp, TE.rd]
    have := pc_right (t := t) (j := i + 1 + fs.rd.length) (C := fs'.rd) (A := [48 + (d : Int)]) (At.cons hA.head (At.nil _))
    simp only [List.length_cons, List.length_nil, Nat.zero_add, List.cons_append, List.nil_append] at this
    rw [this]; congr 1; omega
theorem TFs.stS_ : ∀ (fs : TFs) (l : List Nat) (i : Nat), fs.ok s l → At t i fs.rd → i + fs.rd.length ≤ t.size → rgS t i fs.rd.length = fs.st.map fun fs' => pcS t i (i + fs.rd.length) fs'.rd
  | .nil, l, i, h, hA, hz => by simp [TFs.rd, TFs.st, rgS]
  | .cons f fs, l, i, h, hA, hz => by
    simp only [TFs.ok] at h
    obtain ⟨p, q, _, h1, h2⟩ := h
    simp only [TFs.rd] at hA hz
    have hz' : i + (f.rd.length + fs.rd.length) ≤ t.size := by simpa using hz
    simp only [TFs.rd, TFs.st, List.length_append, List.map_append, List.map_map]
    rw [rgS_add, TF.stS_ f p i h1 hA.left (by omega), TFs.stS_ fs q (i + f.rd.length) h2 hA.right (by omega)]
    congr 1
    · refine List.map_congr_left (fun f' _ => ?_)
      simp only [Function.comp, TFs.rd]
      rw [pc_left hA hz]; simp
    · refine List.map_congr_left (fun fs' _ => ?_)
      simp only [Function.comp, TFs.rd]
      rw [pc_right hA.left]; congr 1; omega
theorem TF.stS_ : ∀ (f : TF) (p i : Nat), f.ok s p → At t i f.rd → i + f.rd.length ≤ t.size → rgS t i f.rd.length = f.st.map fun f' => pcS t i (i + f.rd.length) f'.rd
  | .lt c, p, i, h, hA, hz => by
    simp only [TF.ok] at h
    obtain ⟨h1, h2⟩ := h
    simp only [TF.rd, TF.st] at hA hz ⊢
    have hno := let_nn (c := c) (by rw [h2]; exact h1)
    have hb := hA.head
    show rgS t i 1 = _
    rw [rgS_one, stS_no (by rw [hb]; exact hno.1) (by rw [hb]; exact hno.2.1) (by rw [hb]; exact hno.2.2.1) (by rw [hb]; exact hno.2.2.2)]; rfl
  | .nm c e, p, i, h, hA, hz => by
    simp only [TF.ok] at h
    obtain ⟨h1, h2, h3⟩ := h
    have hcN : cN c = true := by rw [h2]; exact h1
    simp only [TF.rd] at hA hz
    have hm := mt_nm h3 hA
    have hl : (c :: 40 :: (e.rd ++ [41])).length = 1 + (1 + (e.rd.length + 1)) := by simp; omega
    have h41 : bt t ((i + 1 + 1 + e.rd.length : Nat) : Int) = 41 := hA.tail.tail.right.head
    have h40 : bt t ((i + 1 : Nat) : Int) = 40 := hA.tail.head
    have hb := hA.head
    simp only [TF.rd, TF.st, List.map_append, List.map_map]
    rw [hl] at hz ⊢
    rw [rgS_add, rgS_add, rgS_add, rgS_one, rgS_one, rgS_one, stS_no (i := i + 1) (by rw [h40]; decide) (by rw [h40]; decide) (by rw [h40]; decide) (by rw [h40]; decide), stS_no (i := i + 1 + 1 + e.rd.length) (by rw [h41]; decide) (by rw [h41]; decide) (by rw [h41]; decide) (by rw [h41]; decide), TE.stS_ e _ (i + 1 + 1) h3 hA.tail.tail.left (by omega)]
    simp only [List.nil_append, List.append_nil]
    congr 1
    · unfold stS
      rw [if_pos (by rw [hb]; exact hcN)]
      unfold wnS
      rw [hb, hm, show i + 2 + e.rd.length - (i + 2) = e.rd.length by omega]
      have hin := TE.inS_ (t := t) hcN e _ (i + 2) h3 hA.tail.tail.left
      unfold inS at hin
      have : (nmS t c (i + 2) e.rd.length).map (fun j => seg t 0 i ++ (seg t j (mt t (j + 1) + 1) ++ seg t (i + 2 + e.rd.length + 1) t.size)) = ((nmS t c (i + 2) e.rd.length).map fun j => seg t j (mt t (j + 1) + 1)).map fun L => pcS t i (i + (1 + (1 + (e.rd.length + 1)))) L := by
        rw [List.map_map]
        refine List.map_congr_left (fun j _ => ?_)
        simp only [Function.comp, pcS]
        rw [show i + 2 + e.rd.length + 1 = i + (1 + (1 + (e.rd.length + 1))) by omega]
      rw [this, hin, List.map_map]; rfl
    · refine List.map_congr_left (fun e' _ => ?_)
      simp only [Function.comp, TF.rd]
      have hA3 : At t (i + 1 + 1) (e.rd ++ [41]) := hA.tail.tail
      rw [pc_left hA3 (by simp; omega)]
      have := pc_right (t := t) (j := i + 1 + 1 + (e.rd ++ [41]).length) (C := e'.rd ++ [41]) (A := [c, 40]) (At.cons hb (At.cons h40 (At.nil _)))
      simp only [List.length_cons, List.length_nil, Nat.zero_add, List.cons_append, List.nil_append] at this
      rw [show i + (1 + 1) = i + 1 + 1 by omega] at this
      rw [this]; congr 1; simp; omega
  | .br o es, p, i, h, hA, hz => by
    simp only [TF.ok] at h
    obtain ⟨h1, h2, h5, h3⟩ := h
    have ho : cO o = true := by rw [h2]; exact h1
    have hc0 : cC o ≠ 0 := by simpa [cO] using ho
    have hcx := cX_cC _ hc0
    simp only [TF.rd] at hA hz
    have hl : (o :: (es.rd ++ [cC o])).length = 1 + (es.rd.length + 1) := by simp; omega
    have hcl : bt t ((i + 1 + es.rd.length : Nat) : Int) = cC o := hA.tail.right.head
    have hb := hA.head
    have hcn := cls_no hcx
    have hov := cO_vals ho
    have hown : stS t i = (List.range (ownN o es.len)).map fun k => pcS t i (i + (o :: (es.rd ++ [cC o])).length) (o :: ((es.del k).rd ++ [cC o])) := by
      have hlen : (elS t i).length = es.len := by rw [elS_brk ho hcx h3 hA, sp_len]
      have hw : ∀ k, woS t i k = pcS t i (i + (o :: (es.rd ++ [cC o])).length) (o :: ((es.del k).rd ++ [cC o])) := fun k => woS_brk ho hcx h3 hA hz
      unfold stS ownN
      rw [hb, hlen, if_neg (by rcases hov with h | h | h | h <;> rw [h] <;> decide)]
      by_cases q1 : o = 91
      · rw [if_pos q1]
        by_cases q2 : es.len = 1
        · rw [if_pos ⟨q1, q2⟩, if_pos q2]
          simp [hw]
        · rw [if_neg (fun h => q2 h.2), if_neg (fun h => by rcases h with h | h; omega; omega), if_neg q2]; rfl
      · rw [if_neg (fun h => q1 h.1), if_neg q1]
        by_cases q2 : o = 123
        · rw [if_pos (.inl q2), if_pos q2]
          exact List.map_congr_left (fun k _ => hw k)
        · rw [if_neg q2]
          by_cases q3 : o = 60
          · rw [if_pos q3]
            by_cases q4 : 1 < es.len
            · rw [if_pos (.inr ⟨q3, q4⟩), if_pos q4]
              exact List.map_congr_left (fun k _ => hw k)
            · rw [if_neg (fun h => by rcases h with h | h; exact q2 h; exact q4 h.2), if_neg q4]; rfl
          · rw [if_neg (fun h => by rcases h with h | h; exact q2 h; exact q3 h.1), if_neg q3]; rfl
    have hes : rgS t (i + 1) es.rd.length = es.st.map fun es' => pcS t (i + 1) (i + 1 + es.rd.length) es'.rd := by
      have hA2 := hA.tail.left
      cases es with
      | nil => simp [TEs.rd, TEs.st, rgS]
      | cons e es =>
        simp only [TEs.ok] at h3
        have hz2 : i + 1 + (e.rd ++ es.rt).length ≤ t.size := by rw [hl] at hz; simp only [TEs.rd] at hz; omega
        simp only [TEs.rd] at hA2
        simp only [TEs.rd, TEs.st, List.map_append, List.map_map]
        have hz3 : i + 1 + (e.rd.length + es.rt.length) ≤ t.size := by simpa using hz2
        rw [List.length_append, rgS_add, TE.stS_ e _ (i + 1) h3.1 hA2.left (by omega), TEs.stS_ es _ (i + 1 + e.rd.length) h3.2 hA2.right (by omega)]
        congr 1
        · refine List.map_congr_left (fun e' _ => ?_)
          simp only [Function.comp, TEs.rd]
          rw [pc_left hA2 hz2]; simp
        · refine List.map_congr_left (fun es' _ => ?_)
          simp only [Function.comp, TEs.rd]
          rw [pc_right hA2.left]; congr 1; omega
    simp only [TF.rd, TF.st, List.map_append, List.map_map]
    rw [hl] at hz ⊢
    rw [rgS_add, rgS_add, rgS_one, rgS_one, hown, hes, stS_no (i := i + 1 + es.rd.length) (by rw [hcl]; exact hcn.1) (by rw [hcl]; exact hcn.2.1) (by rw [hcl]; exact hcn.2.2.1) (by rw [hcl]; exact hcn.2.2.2), List.append_nil]
    congr 1
    · refine List.map_congr_left (fun k _ => ?_)
      simp only [Function.comp, TF.rd]
      rw [hl]
    · refine List.map_congr_left (fun es' _ => ?_)
      simp only [Function.comp, TF.rd]
      have hA3 : At t (i + 1) (es.rd ++ [cC o]) := hA.tail
      rw [pc_left hA3 (by simp; omega)]
      have := pc_right (t := t) (j := i + 1 + (es.rd ++ [cC o]).length) (C := es'.rd ++ [cC o]) (A := [o]) (At.cons hb (At.nil _))
      simp only [List.length_cons, List.length_nil, Nat.zero_add, List.cons_append, List.nil_append] at this
      rw [this]; congr 1; simp; omega
theorem TEs.stS_ : ∀ (es : TEs) (x i : Nat), es.ok s x → At t i es.rt → i + es.rt.length ≤ t.size → rgS t i es.rt.length = es.st.map fun es' => pcS t i (i + es.rt.length) es'.rt
  | .nil, x, i, h, hA, hz => by simp [TEs.rt, TEs.st, rgS]
  | .cons e es, x, i, h, hA, hz => by
    simp only [TEs.ok] at h
    simp only [TEs.rt] at hA hz
    have hl : (44 :: (e.rd ++ es.rt)).length = 1 + (e.rd.length + es.rt.length) := by simp; omega
    have hb := hA.head
    have hA2 := hA.tail
    rw [hl] at hz
    have hz2 : i + 1 + (e.rd ++ es.rt).length ≤ t.size := by simp; omega
    simp only [TEs.rt, TEs.st, List.map_append, List.map_map]
    rw [hl, rgS_add, rgS_add, rgS_one, stS_no (by rw [hb]; decide) (by rw [hb]; decide) (by rw [hb]; decide) (by rw [hb]; decide), List.nil_append, TE.stS_ e _ (i + 1) h.1 hA2.left (by omega), TEs.stS_ es _ (i + 1 + e.rd.length) h.2 hA2.right (by omega)]
    have hone : ∀ j C, pcS t (i + 1) j C = pcS t i j (44 :: C) := fun j C => by
      have := pc_right (t := t) (j := j) (C := C) (A := [44]) (At.cons hb (At.nil _))
      simpa using this
    congr 1
    · refine List.map_congr_left (fun e' _ => ?_)
      simp only [Function.comp, TEs.rt]
      rw [pc_left hA2 hz2, hone]; congr 1; simp; omega
    · refine List.map_congr_left (fun es' _ => ?_)
      simp only [Function.comp, TEs.rt]
      rw [pc_right hA2.left, hone]; congr 1; omega
end
/-- the steps of a tree's text -/
theorem stS_all {f : TF} (h : TreeOf s t f) : rgS t 0 t.size = f.st.map TF.rd := by
  have h1 := TF.stS_ f 0 0 h.ok h.at_ (by have := h.sz; omega)
  rw [← h.sz] at h1
  rw [h1]
  refine List.map_congr_left (fun f' _ => ?_)
  simp [pcS, seg_self]
end
end Go.Proofs.YtnfaiaoipeholaaGreatDoor

namespace Go.Proofs.YtnfaiaoipeholaaGreatDoor
/-- how a byte turns the depth of options -/
def sqd (c d : Int) : Int := if c = 91 then d + 1 else if c = 93 then d - 1 else d
/-- behind the option, from a place and a depth on -/
def sqF (t : ByteArray) : Nat → Nat → Int → Nat
  | 0, j, _ => j
  | n + 1, j, d => if 0 < d then sqF t n (j + 1) (sqd (bt t j) d) else j
def sqK (t : ByteArray) (j : Nat) (d : Int) : Nat := sqF t (t.size - j) j d
section
variable {s t : ByteArray}
theorem sqK_step {j : Nat} {d : Int} (h : j < t.size) (hd : 0 < d) : sqK t j d = sqK t (j + 1) (sqd (bt t j) d) := by
  unfold sqK
  rw [show t.size - j = (t.size - (j + 1)) + 1 by omega]
  show (if 0 < d then sqF t (t.size - (j + 1)) (j + 1) (sqd (bt t j) d) else j) = _
  rw [if_pos hd]
/-- over these bytes the depth of options comes back -/
def BalS (t : ByteArray) (L : List Int) : Prop := ∀ i (d : Int), 1 ≤ d → At t i L → sqK t i d = sqK t (i + L.length) d
theorem BalS.nil : BalS t [] := fun _ _ _ _ => rfl
theorem BalS.plain {c : Int} {L : List Int} (h : c ≠ 0) (h1 : c ≠ 91) (h2 : c ≠ 93) (g : BalS t L) : BalS t (c :: L) := fun i d hd hA => by
  have hb := hA.head
  rw [sqK_step (bt_lt (by rw [hb]; exact h)) (by omega), hb, show sqd c d = d by unfold sqd; rw [if_neg h1, if_neg h2], g (i + 1) d hd hA.tail]
  simp only [List.length_cons]; congr 1; omega
theorem BalS.app {A B : List Int} (h : BalS t A) (g : BalS t B) : BalS t (A ++ B) := fun i d hd hA => by
  rw [h i d hd hA.left, g _ d hd hA.right]
  simp only [List.length_append]; congr 1; omega
theorem BalS.opt {L : List Int} (g : BalS t L) : BalS t (91 :: (L ++ [93])) := fun i d hd hA => by
  have hb := hA.head
  have hA2 := hA.tail
  have hcl : bt t ((i + 1 + L.length : Nat) : Int) = 93 := hA2.right.head
  rw [sqK_step (bt_lt (by rw [hb]; decide)) (by omega), hb, show sqd 91 d = d + 1 from rfl, g (i + 1) (d + 1) (by omega) hA2.left, sqK_step (bt_lt (by rw [hcl]; decide)) (by omega), hcl, show sqd 93 (d + 1) = d + 1 - 1 from rfl]
  simp only [List.length_cons, List.length_append, List.length_nil]
  rw [show d + 1 - 1 = d by omega]; congr 1; omega
theorem pl_sq {c : Int} (h : Pl c) : c ≠ 91 ∧ c ≠ 93 := by
  refine ⟨fun e => ?_, fun e => ?_⟩
  · subst e; exact absurd h.2.1 (by decide)
  · subst e; exact absurd h.2.2.1 (by decide)
mutual
theorem TE.balS : ∀ (e : TE) (x : Nat), e.ok s x → BalS t e.rd
  | .mk d fs, x, h => by
    simp only [TE.ok] at h
    obtain ⟨hd, a, _, h2⟩ := h
    simp only [TE.rd]
    have hp := pl_dig hd
    exact BalS.plain hp.1 (pl_sq hp).1 (pl_sq hp).2 (TFs.balS fs _ h2)
theorem TFs.balS : ∀ (fs : TFs) (l : List Nat), fs.ok s l → BalS t fs.rd
  | .nil, l, h => by simp only [TFs.rd]; exact BalS.nil
  | .cons f fs, l, h => by
    simp only [TFs.ok] at h
    obtain ⟨p, q, _, h1, h2⟩ := h
    simp only [TFs.rd]
    exact (TF.balS f p h1).app (TFs.balS fs q h2)
theorem TF.balS : ∀ (f : TF) (p : Nat), f.ok s p → BalS t f.rd
  | .lt c, p, h => by
    simp only [TF.ok] at h
    obtain ⟨h1, h2⟩ := h
    simp only [TF.rd]
    have hp := pl_let (c := c) (by rw [h2]; exact h1)
    exact BalS.plain hp.1 (pl_sq hp).1 (pl_sq hp).2 BalS.nil
  | .nm c e, p, h => by
    simp only [TF.ok] at h
    obtain ⟨h1, h2, h3⟩ := h
    simp only [TF.rd]
    have hp := pl_nam (c := c) (by rw [h2]; exact h1)
    exact BalS.plain hp.1 (pl_sq hp).1 (pl_sq hp).2 (BalS.plain (by decide) (by decide) (by decide) ((TE.balS e _ h3).app (BalS.plain (by decide) (by decide) (by decide) BalS.nil)))
  | .br o es, p, h => by
    simp only [TF.ok] at h
    obtain ⟨h1, h2, _, h3⟩ := h
    have ho : cO o = true := by rw [h2]; exact h1
    have hov := cO_vals ho
    simp only [TF.rd]
    have hes : BalS t es.rd := by
      cases es with
      | nil => simp only [TEs.rd]; exact BalS.nil
      | cons e es =>
        simp only [TEs.ok] at h3
        simp only [TEs.rd]
        exact (TE.balS e _ h3.1).app (TEs.balS es _ h3.2)
    rcases hov with h | h | h | h
    · rw [h]; exact BalS.plain (by decide) (by decide) (by decide) (hes.app (BalS.plain (by decide) (by decide) (by decide) BalS.nil))
    · rw [h]; exact BalS.opt hes
    · rw [h]; exact BalS.plain (by decide) (by decide) (by decide) (hes.app (BalS.plain (by decide) (by decide) (by decide) BalS.nil))
    · rw [h]; exact BalS.plain (by decide) (by decide) (by decide) (hes.app (BalS.plain (by decide) (by decide) (by decide) BalS.nil))
theorem TEs.balS : ∀ (es : TEs) (x : Nat), es.ok s x → BalS t es.rt
  | .nil, x, h => by simp only [TEs.rt]; exact BalS.nil
  | .cons e es, x, h => by
    simp only [TEs.ok] at h
    simp only [TEs.rt]
    exact BalS.plain (by decide) (by decide) (by decide) ((TE.balS e _ h.1).app (TEs.balS es _ h.2))
end
/-- an option stands here -/
def Opt (s t : ByteArray) (i : Nat) : Prop := ∃ (es : TEs) (x : Nat), es.ok s x ∧ es.len ≤ 1 ∧ At t i (91 :: (es.rd ++ [93]))
mutual
theorem TE.opt : ∀ (e : TE) (x a i : Nat), e.ok s x → At t a e.rd → a ≤ i → i < a + e.rd.length → bt t i = 91 → Opt s t i
  | .mk d fs, x, a, i, h, hA, h1, h2, hb => by
    simp only [TE.ok] at h
    obtain ⟨hd, y, _, h3⟩ := h
    simp only [TE.rd, List.length_cons] at hA h2
    by_cases e : i = a
    · subst e; have := hA.head; omega
    · exact TFs.opt fs _ (a + 1) i h3 hA.tail (by omega) (by omega) hb
theorem TFs.opt : ∀ (fs : TFs) (l : List Nat) (a i : Nat), fs.ok s l → At t a fs.rd → a ≤ i → i < a + fs.rd.length → bt t i = 91 → Opt s t i
  | .nil, l, a, i, h, hA, h1, h2, hb => by simp [TFs.rd] at h2; omega
  | .cons f fs, l, a, i, h, hA, h1, h2, hb => by
    simp only [TFs.ok] at h
    obtain ⟨p, q, _, h3, h4⟩ := h
    simp only [TFs.rd, List.length_append] at hA h2
    by_cases e : i < a + f.rd.length
    · exact TF.opt f p a i h3 hA.left h1 e hb
    · exact TFs.opt fs q (a + f.rd.length) i h4 hA.right (by omega) (by omega) hb
theorem TF.opt : ∀ (f : TF) (p a i : Nat), f.ok s p → At t a f.rd → a ≤ i → i < a + f.rd.length → bt t i = 91 → Opt s t i
  | .lt c, p, a, i, h, hA, h1, h2, hb => by
    simp only [TF.ok] at h
    simp only [TF.rd, List.length_cons, List.length_nil] at hA h2
    have e : i = a := by omega
    subst e
    have hw : 97 ≤ bt s p ∧ bt s p ≤ 122 := by simpa [cL] using h.1
    have := hA.head
    omega
  | .nm c e, p, a, i, h, hA, h1, h2, hb => by
    simp only [TF.ok] at h
    obtain ⟨g1, g2, g3⟩ := h
    simp only [TF.rd, List.length_cons, List.length_append, List.length_nil] at hA h2
    have hw : 65 ≤ bt s p ∧ bt s p ≤ 90 := by simpa [cN] using g1
    have h41 : bt t ((a + 1 + 1 + e.rd.length : Nat) : Int) = 41 := hA.tail.tail.right.head
    have h40 : bt t ((a + 1 : Nat) : Int) = 40 := hA.tail.head
    by_cases e0 : i = a
    · subst e0; have := hA.head; omega
    by_cases e1 : i = a + 1
    · subst e1; omega
    by_cases e2 : i = a + 1 + 1 + e.rd.length
    · subst e2; omega
    exact TE.opt e _ (a + 1 + 1) i g3 hA.tail.tail.left (by omega) (by omega) hb
  | .br o es, p, a, i, h, hA, h1, h2, hb => by
    simp only [TF.ok] at h
    obtain ⟨g1, g2, g5, g3⟩ := h
    simp only [TF.rd, List.length_cons, List.length_append, List.length_nil] at hA h2
    have hcl : bt t ((a + 1 + es.rd.length : Nat) : Int) = cC o := hA.tail.right.head
    have hcv := cC_vals o
    by_cases e0 : i = a
    · subst e0
      have ho : o = 91 := by have := hA.head; omega
      subst ho
      exact ⟨es, p + 1, g3, g5.2.1 rfl, hA⟩
    by_cases e2 : i = a + 1 + es.rd.length
    · subst e2; omega
    have hA2 := hA.tail.left
    have h5 : a + 1 ≤ i := by omega
    have h6 : i < a + 1 + es.rd.length := by omega
    cases es with
    | nil => simp [TEs.rd] at h6; omega
    | cons e es =>
      simp only [TEs.ok] at g3
      simp only [TEs.rd, List.length_append] at hA2 h6
      by_cases e4 : i < a + 1 + e.rd.length
      · exact TE.opt e _ (a + 1) i g3.1 hA2.left h5 e4 hb
      · exact TEs.opt es _ (a + 1 + e.rd.length) i g3.2 hA2.right (by omega) (by omega) hb
theorem TEs.opt : ∀ (es : TEs) (x a i : Nat), es.ok s x → At t a es.rt → a ≤ i → i < a + es.rt.length → bt t i = 91 → Opt s t i
  | .nil, x, a, i, h, hA, h1, h2, hb => by simp [TEs.rt] at h2; omega
  | .cons e es, x, a, i, h, hA, h1, h2, hb => by
    simp only [TEs.ok] at h
    simp only [TEs.rt, List.length_cons, List.length_append] at hA h2
    by_cases e0 : i = a
    · subst e0; have := hA.head; omega
    by_cases e4 : i < a + 1 + e.rd.length
    · exact TE.opt e _ (a + 1) i h.1 hA.tail.left (by omega) e4 hb
    · exact TEs.opt es _ (a + 1 + e.rd.length) i h.2 hA.tail.right (by omega) (by omega) hb
end
end
end Go.Proofs.YtnfaiaoipeholaaGreatDoor

namespace Go.Proofs.YtnfaiaoipeholaaGreatDoor
section
variable {s t u : ByteArray}
end
end Go.Proofs.YtnfaiaoipeholaaGreatDoor
