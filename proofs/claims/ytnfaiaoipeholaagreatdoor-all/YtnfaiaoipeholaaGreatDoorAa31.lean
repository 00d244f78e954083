/- TrF TrG TrH TrI ParH -/
import Derived.Test.YtnfaiaoipeholaaGreatDoorAa30
import Derived.Test.YtnfaiaoipeholaaGreatDoorAa28
namespace Go.Proofs.YtnfaiaoipeholaaGreatDoor
set_option linter.unusedSimpArgs false
set_option linter.unusedVariables false
section
variable {s t : ByteArray}
theorem mtK_plain {j : Nat} {d : Int} (h : bt t j ≠ 0) (h1 : cO (bt t j) = false) (h2 : cX (bt t j) = false) : mtD t j d = mtD t (j + 1) d := by
  rw [mtD_step (bt_lt h), if_neg (by simp [h1]), if_neg (by simp [h2])]
theorem mtK_open {j : Nat} {d : Int} (h1 : cO (bt t j) = true) : mtD t j d = mtD t (j + 1) (d + 1) := by
  rw [mtD_step (bt_lt (by intro h0; rw [h0] at h1; exact absurd h1 (by decide))), if_pos h1]
theorem mtK_close {j : Nat} {d : Int} (h2 : cX (bt t j) = true) : mtD t j d = if d - 1 = 0 then j else mtD t (j + 1) (d - 1) := by
  have h1 : cO (bt t j) = false := (close_not h2).2.2.1
  rw [mtD_step (bt_lt (by intro h0; rw [h0] at h2; exact absurd h2 (by decide))), if_neg (by simp [h1]), if_pos h2]
/-- a byte that is no bracket, no comma -/
def Pl (c : Int) : Prop := c ≠ 0 ∧ cO c = false ∧ cX c = false ∧ c ≠ 44
theorem pl_dig {d : Nat} (h : d ≤ 9) : Pl (48 + (d : Int)) := by
  refine ⟨by omega, ?_, ?_, by omega⟩
  · cases e : cO (48 + (d : Int))
    · rfl
    · have := cO_vals e; omega
  · cases e : cX (48 + (d : Int))
    · rfl
    · have := cX_vals e; omega
theorem pl_let {c : Int} (h : cL c = true) : Pl c := by
  have hv : 97 ≤ c ∧ c ≤ 122 := by simpa [cL] using h
  have := plain_not (c := c) (.inl (by simp [h]))
  exact ⟨by omega, this.1, this.2, by omega⟩
theorem pl_nam {c : Int} (h : cN c = true) : Pl c := by
  have hv : 65 ≤ c ∧ c ≤ 90 := by simpa [cN] using h
  have := plain_not (c := c) (.inl (by simp [h]))
  exact ⟨by omega, this.1, this.2, by omega⟩
theorem pl_com : cO 44 = false ∧ cX 44 = false ∧ (44 : Int) ≠ 0 := by decide
/-- over these bytes the depth comes back -/
def Bal (t : ByteArray) (L : List Int) : Prop := ∀ i (d : Int), 1 ≤ d → At t i L → mtD t i d = mtD t (i + L.length) d
theorem Bal.nil : Bal t [] := fun _ _ _ _ => rfl
theorem Bal.plain {c : Int} {L : List Int} (h : c ≠ 0) (h1 : cO c = false) (h2 : cX c = false) (g : Bal t L) : Bal t (c :: L) := fun i d hd hA => by
  have hb := hA.head
  rw [mtK_plain (by rw [hb]; exact h) (by rw [hb]; exact h1) (by rw [hb]; exact h2), g (i + 1) d hd hA.tail]
  simp only [List.length_cons]; congr 1; omega
theorem Bal.app {A B : List Int} (h : Bal t A) (g : Bal t B) : Bal t (A ++ B) := fun i d hd hA => by
  rw [h i d hd hA.left, g _ d hd hA.right]
  simp only [List.length_append]; congr 1; omega
theorem Bal.brk {o c : Int} {L : List Int} (ho : cO o = true) (hc : cX c = true) (g : Bal t L) : Bal t (o :: (L ++ [c])) := fun i d hd hA => by
  have hb := hA.head
  have hA2 := hA.tail
  have hcl : bt t ((i + 1 + L.length : Nat) : Int) = c := hA2.right.head
  rw [mtK_open (by rw [hb]; exact ho), g (i + 1) (d + 1) (by omega) hA2.left, mtK_close (by rw [hcl]; exact hc), if_neg (by omega)]
  simp only [List.length_cons, List.length_append, List.length_nil]
  rw [show d + 1 - 1 = d by omega]; congr 1; omega
theorem bal_all : (∀ z, (fun (e : (TE TF)) => ∀ (x : Nat), e.ok s x → Bal t e.rd) z) ∧ (∀ z, (fun (fs : TFs) => ∀ (l : List Nat), (TFs.ok s fs) l → Bal t (TFs.rd fs)) z) ∧ (∀ z, (fun (f : TF) => ∀ (p : Nat), f.ok s p → Bal t f.rd) z) ∧ (∀ z, (fun (es : TEs) => ∀ (x : Nat), (TEs.ok s es) x → Bal t (TEs.rt es)) z) := by
  refine tree_ind ?_ ?_ ?_ ?_ ?_ ?_ ?_ ?_
  · intro d fs ihfs x h
    simp only [TE.ok_mk] at h
    obtain ⟨hd, a, _, h2⟩ := h
    simp only [TE.rd_mk]
    have hp := pl_dig hd
    exact Bal.plain hp.1 hp.2.1 hp.2.2.1 (ihfs _ h2)
  · intro l h
    simp only [TFs.rd_nil, TFs.rd_cons]; exact Bal.nil
  · intro f fs ihf ihfs l h
    simp only [TFs.ok_nil, TFs.ok_cons] at h
    obtain ⟨p, q, _, h1, h2⟩ := h
    simp only [TFs.rd_nil, TFs.rd_cons]
    exact (ihf p h1).app (ihfs q h2)
  · intro c p h
    simp only [TF.ok_lt, TF.ok_nm, TF.ok_br] at h
    obtain ⟨h1, h2⟩ := h
    simp only [TF.rd_lt, TF.rd_nm, TF.rd_br]
    have hp := pl_let (c := c) (by rw [h2]; exact h1)
    exact Bal.plain hp.1 hp.2.1 hp.2.2.1 Bal.nil
  · intro c e ihe p h
    simp only [TF.ok_lt, TF.ok_nm, TF.ok_br] at h
    obtain ⟨h1, h2, h3⟩ := h
    simp only [TF.rd_lt, TF.rd_nm, TF.rd_br]
    have hp := pl_nam (c := c) (by rw [h2]; exact h1)
    exact Bal.plain hp.1 hp.2.1 hp.2.2.1 (Bal.brk (by decide) (by decide) (ihe _ h3))
  · intro o es _ ihb p h
    simp only [TF.ok_lt, TF.ok_nm, TF.ok_br] at h
    obtain ⟨h1, h2, _, h3⟩ := h
    have hc0 : cC o ≠ 0 := by rw [h2]; simpa [cO] using h1
    simp only [TF.rd_lt, TF.rd_nm, TF.rd_br]
    refine Bal.brk (by rw [h2]; exact h1) (cX_cC _ hc0) ?_
    cases es with
    | nil => simp only [TEs.rd_nil, TEs.rd_cons]; exact Bal.nil
    | cons e es =>
      simp only [TEs.ok_nil, TEs.ok_cons] at h3
      simp only [TEs.rd_nil, TEs.rd_cons]
      exact ((ihb _ _ rfl).1 _ h3.1).app ((ihb _ _ rfl).2 _ h3.2)
  · intro x h
    simp only [TEs.rt_nil, TEs.rt_cons]; exact Bal.nil
  · intro e es ihe ihes x h
    simp only [TEs.ok_nil, TEs.ok_cons] at h
    simp only [TEs.rt_nil, TEs.rt_cons]
    exact Bal.plain pl_com.2.2 pl_com.1 pl_com.2.1 ((ihe _ h.1).app (ihes _ h.2))
theorem TE.bal : ∀ (e : (TE TF)) (x : Nat), e.ok s x → Bal t e.rd := bal_all.1
theorem TFs.bal : ∀ (fs : TFs) (l : List Nat), (TFs.ok s fs) l → Bal t (TFs.rd fs) := bal_all.2.1
theorem TF.bal : ∀ (f : TF) (p : Nat), f.ok s p → Bal t f.rd := bal_all.2.2.1
theorem TEs.bal : ∀ (es : TEs) (x : Nat), (TEs.ok s es) x → Bal t (TEs.rt es) := bal_all.2.2.2
theorem TEs.balr (es : TEs) (x : Nat) (h : (TEs.ok s es) x) : Bal t (TEs.rd es) := by
  cases es with
  | nil => simp only [TEs.rd_nil, TEs.rd_cons]; exact Bal.nil
  | cons e es =>
    simp only [TEs.ok_nil, TEs.ok_cons] at h
    simp only [TEs.rd_nil, TEs.rd_cons]
    exact (TE.bal e _ h.1).app (TEs.bal es _ h.2)
/-- a bracket closes behind what is in it -/
theorem mt_brk {o c : Int} {L : List Int} {i : Nat} (ho : cO o = true) (hc : cX c = true) (g : Bal t L) (hA : At t i (o :: (L ++ [c]))) : mt t i = i + 1 + L.length := by
  have hb := hA.head
  have hA2 := hA.tail
  have hcl : bt t ((i + 1 + L.length : Nat) : Int) = c := hA2.right.head
  unfold mt
  rw [mtK_open (by rw [hb]; exact ho), g (i + 1) (0 + 1) (by omega) hA2.left, mtK_close (by rw [hcl]; exact hc), if_pos (by omega)]

/-- the elements' spans, up to an end: from this place on, the one that is open having begun there -/
def spF (t : ByteArray) (e : Nat) : Nat → Nat → Nat → List (Nat × Nat)
  | 0, _, fr => [(fr, e)]
  | n + 1, j, fr => if e ≤ j then [(fr, e)]
    else if cO (bt t j) = true then spF t e n (mt t j + 1) fr
    else if bt t j = 44 then (fr, j) :: spF t e n (j + 1) (j + 1)
    else spF t e n (j + 1) fr
/-- the spans of what is in the bracket that opens here -/
def elS (t : ByteArray) (i : Nat) : List (Nat × Nat) := if i + 1 < mt t i then spF t (mt t i) t.size (i + 1) (i + 1) else []
/-- over these bytes nothing is cut -/
def Cut0 (t : ByteArray) (L : List Int) : Prop := ∀ e n i fr, At t i L → i + L.length ≤ e → L.length ≤ n → ∃ n', n - L.length ≤ n' ∧ spF t e n i fr = spF t e n' (i + L.length) fr
theorem Cut0.nil : Cut0 t [] := fun _ n _ _ _ _ _ => ⟨n, by simp, rfl⟩
theorem Cut0.app {A B : List Int} (h : Cut0 t A) (g : Cut0 t B) : Cut0 t (A ++ B) := fun e n i fr hA he hn => by
  simp only [List.length_append] at he hn ⊢
  obtain ⟨n1, q1, q2⟩ := h e n i fr hA.left (by omega) (by omega)
  obtain ⟨n2, q3, q4⟩ := g e n1 (i + A.length) fr hA.right (by omega) (by omega)
  exact ⟨n2, by omega, by rw [q2, q4]; congr 1; omega⟩
theorem Cut0.plain {c : Int} {L : List Int} (h : Pl c) (g : Cut0 t L) : Cut0 t (c :: L) := fun e n i fr hA he hn => by
  simp only [List.length_cons] at he hn ⊢
  obtain ⟨m, rfl⟩ : ∃ m, n = m + 1 := ⟨n - 1, by omega⟩
  obtain ⟨n2, q3, q4⟩ := g e m (i + 1) fr hA.tail (by omega) (by omega)
  have hb := hA.head
  refine ⟨n2, by omega, ?_⟩
  conv => lhs; unfold spF
  rw [if_neg (by omega), if_neg (by rw [hb, h.2.1]; decide), if_neg (by rw [hb]; exact h.2.2.2), q4]
  congr 1; omega
theorem Cut0.brk {o c : Int} {L : List Int} (ho : cO o = true) (hc : cX c = true) (g : Bal t L) : Cut0 t (o :: (L ++ [c])) := fun e n i fr hA he hn => by
  simp only [List.length_cons, List.length_append, List.length_nil] at he hn ⊢
  obtain ⟨m, rfl⟩ : ∃ m, n = m + 1 := ⟨n - 1, by omega⟩
  have hb := hA.head
  refine ⟨m, by omega, ?_⟩
  conv => lhs; unfold spF
  rw [if_neg (by omega), if_pos (by rw [hb]; exact ho), mt_brk ho hc g hA]
  congr 1; omega
theorem cut_all : (∀ z, (fun (e : (TE TF)) => ∀ (x : Nat), e.ok s x → Cut0 t e.rd) z) ∧ (∀ z, (fun (fs : TFs) => ∀ (l : List Nat), (TFs.ok s fs) l → Cut0 t (TFs.rd fs)) z) ∧ (∀ z, (fun (f : TF) => ∀ (p : Nat), f.ok s p → Cut0 t f.rd) z) ∧ (∀ z, (fun (_ : TEs) => True) z) := by
  refine tree_ind ?_ ?_ ?_ ?_ ?_ ?_ ?_ ?_
  · intro d fs ihfs x h
    simp only [TE.ok_mk] at h
    obtain ⟨hd, a, _, h2⟩ := h
    simp only [TE.rd_mk]
    exact Cut0.plain (pl_dig hd) (ihfs _ h2)
  · intro l h
    simp only [TFs.rd_nil, TFs.rd_cons]; exact Cut0.nil
  · intro f fs ihf ihfs l h
    simp only [TFs.ok_nil, TFs.ok_cons] at h
    obtain ⟨p, q, _, h1, h2⟩ := h
    simp only [TFs.rd_nil, TFs.rd_cons]
    exact (ihf p h1).app (ihfs q h2)
  · intro c p h
    simp only [TF.ok_lt, TF.ok_nm, TF.ok_br] at h
    obtain ⟨h1, h2⟩ := h
    simp only [TF.rd_lt, TF.rd_nm, TF.rd_br]
    exact Cut0.plain (pl_let (by rw [h2]; exact h1)) Cut0.nil
  · intro c e _ p h
    simp only [TF.ok_lt, TF.ok_nm, TF.ok_br] at h
    obtain ⟨h1, h2, h3⟩ := h
    simp only [TF.rd_lt, TF.rd_nm, TF.rd_br]
    exact Cut0.plain (pl_nam (by rw [h2]; exact h1)) (Cut0.brk (by decide) (by decide) (TE.bal e _ h3))
  · intro o es _ _ p h
    simp only [TF.ok_lt, TF.ok_nm, TF.ok_br] at h
    obtain ⟨h1, h2, _, h3⟩ := h
    have hc0 : cC o ≠ 0 := by rw [h2]; simpa [cO] using h1
    simp only [TF.rd_lt, TF.rd_nm, TF.rd_br]
    exact Cut0.brk (by rw [h2]; exact h1) (cX_cC _ hc0) (TEs.balr es _ h3)
  · exact trivial
  · exact fun _ _ _ _ => trivial
theorem TE.cut : ∀ (e : (TE TF)) (x : Nat), e.ok s x → Cut0 t e.rd := cut_all.1
theorem TFs.cut : ∀ (fs : TFs) (l : List Nat), (TFs.ok s fs) l → Cut0 t (TFs.rd fs) := cut_all.2.1
theorem TF.cut : ∀ (f : TF) (p : Nat), f.ok s p → Cut0 t f.rd := cut_all.2.2.1
/-- the spans of elements -/
def TEs.sp : TEs → Nat → List (Nat × Nat)
  | .nil, _ => []
  | .cons e es, i => (i, i + e.rd.length) :: (TEs.sp es) (i + e.rd.length + 1)
theorem TEs.spF_ : ∀ (es : TEs) (e : (TE TF)) (x n i : Nat), e.ok s x → (TEs.ok s es) x → At t i (e.rd ++ (TEs.rt es)) → (e.rd ++ (TEs.rt es)).length ≤ n → spF t (i + (e.rd ++ (TEs.rt es)).length) n i i = (i, i + e.rd.length) :: (TEs.sp es) (i + e.rd.length + 1)
  | .nil, e, x, n, i, h1, h2, hA, hn => by
    simp only [TEs.rt_nil, TEs.rt_cons, List.append_nil, TEs.sp] at hA hn ⊢
    obtain ⟨n1, q1, q2⟩ := TE.cut (t := t) e x h1 (i + e.rd.length) n i i hA (Nat.le_refl _) hn
    rw [q2]
    cases n1 with
    | zero => rfl
    | succ n1 => unfold spF; rw [if_pos (Nat.le_refl _)]
  | .cons e2 es, e, x, n, i, h1, h2, hA, hn => by
    simp only [TEs.ok_nil, TEs.ok_cons] at h2
    simp only [TEs.rt_nil, TEs.rt_cons, List.length_append, List.length_cons, TEs.sp] at hA hn ⊢
    have hA2 := hA.right
    have hb : bt t ((i + e.rd.length : Nat) : Int) = 44 := hA2.head
    obtain ⟨n1, q1, q2⟩ := TE.cut (t := t) e x h1 (i + (e.rd.length + (e2.rd.length + (TEs.rt es).length + 1))) n i i hA.left (by omega) (by omega)
    have ih := TEs.spF_ es e2 x (n1 - 1) (i + e.rd.length + 1) h2.1 h2.2 hA2.tail (by simp only [List.length_append]; omega)
    obtain ⟨n2, hn2⟩ : ∃ n2, n1 = n2 + 1 := ⟨n1 - 1, by omega⟩
    subst hn2
    rw [q2]
    conv => lhs; unfold spF
    rw [if_neg (by omega), if_neg (by rw [hb]; decide), if_pos hb]
    simp only [List.length_append, Nat.add_sub_cancel] at ih
    rw [show i + (e.rd.length + (e2.rd.length + (TEs.rt es).length + 1)) = i + e.rd.length + 1 + (e2.rd.length + (TEs.rt es).length) by omega, ih]
/-- the spans of a bracket's elements -/
theorem elS_brk {o c : Int} {es : TEs} {i x : Nat} (ho : cO o = true) (hc : cX c = true) (h : (TEs.ok s es) x) (hA : At t i (o :: ((TEs.rd es) ++ [c]))) : elS t i = (TEs.sp es) (i + 1) := by
  have hm := mt_brk ho hc (TEs.balr (t := t) es x h) hA
  unfold elS
  rw [hm]
  cases es with
  | nil => simp [TEs.rd_nil, TEs.rd_cons, TEs.sp]
  | cons e es =>
    simp only [TEs.ok_nil, TEs.ok_cons] at h
    have hrd : (TEs.rd (e :: es)) = e.rd ++ (TEs.rt es) := by simp only [TEs.rd_nil, TEs.rd_cons]
    have hpos := TE.rd_pos e
    have hl : (e.rd ++ (TEs.rt es)).length = e.rd.length + (TEs.rt es).length := by simp
    rw [hrd] at hA
    rw [if_pos (by rw [hrd]; omega), hrd]
    simp only [TEs.sp]
    have hcl : bt t ((i + 1 + (e.rd ++ (TEs.rt es)).length : Nat) : Int) = c := hA.tail.right.head
    have hlt := bt_lt (s := t) (p := i + 1 + (e.rd ++ (TEs.rt es)).length) (by rw [hcl]; intro h0; rw [h0] at hc; exact absurd hc (by decide))
    exact TEs.spF_ es e x t.size (i + 1) h.1 h.2 hA.tail.left (by omega)
end
end Go.Proofs.YtnfaiaoipeholaaGreatDoor

namespace Go.Proofs.YtnfaiaoipeholaaGreatDoor
set_option linter.unusedSimpArgs false
set_option linter.unusedVariables false
section
variable {s t : ByteArray}
theorem seg_At : ∀ {L : List Int} {i : Nat}, At t i L → seg t i (i + L.length) = L
  | [], i, _ => by simp [seg_self]
  | x :: L, i, h => by
    have ih := seg_At h.tail
    rw [seg_app (j := i + 1) (by omega) (by simp), seg_one, h.head, show i + (x :: L).length = i + 1 + L.length by simp; omega, ih]; rfl
/-- what stands behind -/
theorem seg_rest {L : List Int} {i : Nat} (h : At t i L) (hz : i + L.length ≤ t.size) : seg t i t.size = L ++ seg t (i + L.length) t.size := by
  rw [seg_app (j := i + L.length) (by omega) hz, seg_At h]
theorem seg_front {L : List Int} {i : Nat} (h : At t i L) : seg t 0 (i + L.length) = seg t 0 i ++ L := by
  rw [seg_app (j := i) (by omega) (by omega), seg_At h]
/-- elements with commas between -/
def jnS (t : ByteArray) : List (Nat × Nat) → List Int
  | [] => []
  | [p] => seg t p.1 p.2
  | p :: q :: r => seg t p.1 p.2 ++ (44 :: jnS t (q :: r))
/-- the list that opens here without an element -/
def woS (t : ByteArray) (i k : Nat) : List Int := seg t 0 (i + 1) ++ (jnS t ((elS t i).eraseIdx k) ++ seg t (mt t i) t.size)
/-- places of a name -/
def nmS (t : ByteArray) (c : Int) (i n : Nat) : List Nat := (List.range' i n).filter fun j => decide (bt t (j : Nat) = c)
/-- the name here, replaced by each of the same name within -/
def wnS (t : ByteArray) (i : Nat) : List (List Int) := (nmS t (bt t i) (i + 2) (mt t (i + 1) - (i + 2))).map fun j => seg t 0 i ++ (seg t j (mt t (j + 1) + 1) ++ seg t (mt t (i + 1) + 1) t.size)
/-- the steps at a place -/
def stS (t : ByteArray) (i : Nat) : List (List Int) :=
  if cN (bt t i) = true then wnS t i
  else if bt t i = 91 ∧ (elS t i).length = 1 then [woS t i 0]
  else if bt t i = 123 ∨ (bt t i = 60 ∧ 1 < (elS t i).length) then (List.range (elS t i).length).map (woS t i)
  else []
def rgS (t : ByteArray) (i n : Nat) : List (List Int) := (List.range' i n).flatMap (stS t)
theorem rgS_add (t : ByteArray) (i n m : Nat) : rgS t i (n + m) = rgS t i n ++ rgS t (i + n) m := by
  unfold rgS
  rw [← List.range'_append_1, List.flatMap_append]
theorem rgS_one (t : ByteArray) (i : Nat) : rgS t i 1 = stS t i := by simp [rgS]
theorem nmS_add (t : ByteArray) (c : Int) (i n m : Nat) : nmS t c i (n + m) = nmS t c i n ++ nmS t c (i + n) m := by
  unfold nmS
  rw [← List.range'_append_1, List.filter_append]
theorem nmS_one (t : ByteArray) (c : Int) (i : Nat) : nmS t c i 1 = if bt t i = c then [i] else [] := by
  unfold nmS
  simp only [List.range'_one]
  by_cases h : bt t i = c
  · rw [if_pos h, List.filter_cons_of_pos (by simpa using h)]; rfl
  · rw [if_neg h, List.filter_cons_of_neg (by simpa using h)]; rfl
/-- no step here -/
theorem stS_no {i : Nat} (h1 : cN (bt t i) = false) (h2 : bt t i ≠ 91) (h3 : bt t i ≠ 123) (h4 : bt t i ≠ 60) : stS t i = [] := by
  unfold stS
  rw [if_neg (by simp [h1]), if_neg (fun h => h2 h.1), if_neg (fun h => by rcases h with h | h; exact h3 h; exact h4 h.1)]
theorem dig_no {d : Nat} (h : d ≤ 9) : cN (48 + (d : Int)) = false ∧ (48 + (d : Int)) ≠ 91 ∧ (48 + (d : Int)) ≠ 123 ∧ (d ≤ 9) := ⟨by simp [cN]; omega, by omega, by omega, h⟩
theorem let_nn {c : Int} (h : cL c = true) : cN c = false ∧ c ≠ 91 ∧ c ≠ 123 ∧ c ≠ 60 := by
  have hv : 97 ≤ c ∧ c ≤ 122 := by simpa [cL] using h
  exact ⟨by simp [cN]; omega, by omega, by omega, by omega⟩
theorem cls_no {c : Int} (h : cX c = true) : cN c = false ∧ c ≠ 91 ∧ c ≠ 123 ∧ c ≠ 60 := by
  rcases cX_vals h with rfl | rfl | rfl | rfl <;> decide
/-- the names of a kind in a text, with their brackets -/
def inS (t : ByteArray) (c : Int) (i n : Nat) : List (List Int) := (nmS t c i n).map fun j => seg t j (mt t (j + 1) + 1)
theorem inS_add (t : ByteArray) (c : Int) (i n m : Nat) : inS t c i (n + m) = inS t c i n ++ inS t c (i + n) m := by
  unfold inS; rw [nmS_add, List.map_append]
theorem inS_skip {c : Int} {i : Nat} (h : bt t i ≠ c) : inS t c i 1 = [] := by
  unfold inS; rw [nmS_one, if_neg h]; rfl
theorem mt_nm {c : Int} {e : (TE TF)} {i x : Nat} (h : e.ok s x) (hA : At t i (c :: 40 :: (e.rd ++ [41]))) : mt t (i + 1) = i + 2 + e.rd.length := by
  rw [mt_brk (by decide) (by decide) (TE.bal (t := t) e x h) hA.tail]
theorem inS__all {c : Int} (hc : cN c = true) : (∀ z, (fun (e : (TE TF)) => ∀ (x i : Nat), e.ok s x → At t i e.rd → inS t c i e.rd.length = (e.inn c).map TF.rd) z) ∧ (∀ z, (fun (fs : TFs) => ∀ (l : List Nat) (i : Nat), (TFs.ok s fs) l → At t i (TFs.rd fs) → inS t c i (TFs.rd fs).length = ((TFs.inn c fs)).map TF.rd) z) ∧ (∀ z, (fun (f : TF) => ∀ (p i : Nat), f.ok s p → At t i f.rd → inS t c i f.rd.length = (f.inn c).map TF.rd) z) ∧ (∀ z, (fun (es : TEs) => ∀ (x i : Nat), (TEs.ok s es) x → At t i (TEs.rt es) → inS t c i (TEs.rt es).length = ((TEs.inn c es)).map TF.rd) z) := by
  refine tree_ind ?_ ?_ ?_ ?_ ?_ ?_ ?_ ?_
  · intro d fs ihfs x i h hA
    simp only [TE.ok_mk] at h
    obtain ⟨hd, a, _, h2⟩ := h
    simp only [TE.rd_mk, TE.inn_mk, List.length_cons] at hA ⊢
    have hv : 65 ≤ c ∧ c ≤ 90 := by simpa [cN] using hc
    rw [Nat.add_comm, inS_add, inS_skip (by rw [hA.head]; omega), ihfs _ (i + 1) h2 hA.tail]; rfl
  · intro l i h hA
    simp [TFs.rd_nil, TFs.rd_cons, TFs.inn_nil, TFs.inn_cons, inS, nmS]
  · intro f fs ihf ihfs l i h hA
    simp only [TFs.ok_nil, TFs.ok_cons] at h
    obtain ⟨p, q, _, h1, h2⟩ := h
    simp only [TFs.rd_nil, TFs.rd_cons, TFs.inn_nil, TFs.inn_cons, List.length_append, List.map_append] at hA ⊢
    rw [inS_add, ihf p i h1 hA.left, ihfs q _ h2 hA.right]
  · intro c' p i h hA
    simp only [TF.ok_lt, TF.ok_nm, TF.ok_br] at h
    obtain ⟨h1, h2⟩ := h
    simp only [TF.rd_lt, TF.rd_nm, TF.rd_br, TF.inn_lt, TF.inn_nm, TF.inn_br] at hA ⊢
    have hv : 65 ≤ c ∧ c ≤ 90 := by simpa [cN] using hc
    have hw : 97 ≤ bt s p ∧ bt s p ≤ 122 := by simpa [cL] using h1
    exact inS_skip (by rw [hA.head]; omega)
  · intro c' e ihe p i h hA
    simp only [TF.ok_lt, TF.ok_nm, TF.ok_br] at h
    obtain ⟨h1, h2, h3⟩ := h
    have hm := mt_nm h3 (by simpa only [TF.rd_lt, TF.rd_nm, TF.rd_br] using hA)
    have hsg := seg_At hA
    simp only [TF.rd_lt, TF.rd_nm, TF.rd_br, TF.inn_lt, TF.inn_nm, TF.inn_br, List.map_append] at hA ⊢
    have hv : 65 ≤ c ∧ c ≤ 90 := by simpa [cN] using hc
    have hl : (c' :: 40 :: (e.rd ++ [41])).length = 1 + (1 + (e.rd.length + 1)) := by simp; omega
    have h41 : bt t ((i + 1 + 1 + e.rd.length : Nat) : Int) = 41 := hA.tail.tail.right.head
    rw [hl, inS_add, inS_add, inS_add, inS_skip (i := i + 1) (by rw [hA.tail.head]; omega), ihe _ (i + 1 + 1) h3 hA.tail.tail.left, inS_skip (i := i + 1 + 1 + e.rd.length) (by rw [h41]; omega)]
    have hfst : inS t c i 1 = ((if c' = c then [TF.nm c' e] else []) : List TF).map TF.rd := by
      unfold inS
      rw [nmS_one, hA.head]
      by_cases hcc : c' = c
      · rw [if_pos hcc, if_pos hcc]
        simp only [List.map_cons, List.map_nil]
        rw [hm]
        simp only [TF.rd_lt, TF.rd_nm, TF.rd_br] at hsg
        rw [show i + 2 + e.rd.length + 1 = i + (c' :: 40 :: (e.rd ++ [41])).length by rw [hl]; omega, hsg]
        simp only [TF.rd_lt, TF.rd_nm, TF.rd_br]
      · rw [if_neg hcc, if_neg hcc]; rfl
    rw [hfst]; simp
  · intro o es _ ihb p i h hA
    simp only [TF.ok_lt, TF.ok_nm, TF.ok_br] at h
    obtain ⟨h1, h2, _, h3⟩ := h
    have hc0 : cC o ≠ 0 := by rw [h2]; simpa [cO] using h1
    simp only [TF.rd_lt, TF.rd_nm, TF.rd_br, TF.inn_lt, TF.inn_nm, TF.inn_br] at hA ⊢
    have hv : 65 ≤ c ∧ c ≤ 90 := by simpa [cN] using hc
    have hov := cO_vals h1
    have hcv := cC_vals o
    have hl : (o :: ((TEs.rd es) ++ [cC o])).length = 1 + ((TEs.rd es).length + 1) := by simp; omega
    have hcl : bt t ((i + 1 + (TEs.rd es).length : Nat) : Int) = cC o := hA.tail.right.head
    have hes : inS t c (i + 1) (TEs.rd es).length = ((TEs.inn c es)).map TF.rd := by
      have hA2 := hA.tail.left
      cases es with
      | nil => simp [TEs.rd_nil, TEs.rd_cons, TEs.inn_nil, TEs.inn_cons, inS, nmS]
      | cons e es =>
        simp only [TEs.ok_nil, TEs.ok_cons] at h3
        simp only [TEs.rd_nil, TEs.rd_cons, TEs.inn_nil, TEs.inn_cons, List.length_append, List.map_append] at hA2 ⊢
        rw [inS_add, (ihb _ _ rfl).1 _ _ h3.1 hA2.left, (ihb _ _ rfl).2 _ _ h3.2 hA2.right]
    rw [hl, inS_add, inS_add, inS_skip (by rw [hA.head]; omega), hes, inS_skip (by rw [hcl]; omega)]; simp
  · intro x i h hA
    simp [TEs.rt_nil, TEs.rt_cons, TEs.inn_nil, TEs.inn_cons, inS, nmS]
  · intro e es ihe ihes x i h hA
    simp only [TEs.ok_nil, TEs.ok_cons] at h
    simp only [TEs.rt_nil, TEs.rt_cons, TEs.inn_nil, TEs.inn_cons, List.length_cons, List.length_append, List.map_append] at hA ⊢
    have hv : 65 ≤ c ∧ c ≤ 90 := by simpa [cN] using hc
    rw [show e.rd.length + (TEs.rt es).length + 1 = 1 + (e.rd.length + (TEs.rt es).length) by omega, inS_add, inS_add, inS_skip (by rw [hA.head]; omega), ihe _ _ h.1 hA.tail.left, ihes _ _ h.2 hA.tail.right]; rfl
theorem TE.inS_ {c : Int} (hc : cN c = true) : ∀ (e : (TE TF)) (x i : Nat), e.ok s x → At t i e.rd → inS t c i e.rd.length = (e.inn c).map TF.rd := (inS__all hc).1
theorem TFs.inS_ {c : Int} (hc : cN c = true) : ∀ (fs : TFs) (l : List Nat) (i : Nat), (TFs.ok s fs) l → At t i (TFs.rd fs) → inS t c i (TFs.rd fs).length = ((TFs.inn c fs)).map TF.rd := (inS__all hc).2.1
theorem TF.inS_ {c : Int} (hc : cN c = true) : ∀ (f : TF) (p i : Nat), f.ok s p → At t i f.rd → inS t c i f.rd.length = (f.inn c).map TF.rd := (inS__all hc).2.2.1
theorem TEs.inS_ {c : Int} (hc : cN c = true) : ∀ (es : TEs) (x i : Nat), (TEs.ok s es) x → At t i (TEs.rt es) → inS t c i (TEs.rt es).length = ((TEs.inn c es)).map TF.rd := (inS__all hc).2.2.2
end
end Go.Proofs.YtnfaiaoipeholaaGreatDoor

namespace Go.Proofs.YtnfaiaoipeholaaGreatDoor
set_option linter.unusedSimpArgs false
set_option linter.unusedVariables false
section
variable {s t : ByteArray}
/-- a text with a piece in it -/
def pcS (t : ByteArray) (i j : Nat) (L : List Int) : List Int := seg t 0 i ++ (L ++ seg t j t.size)
/-- elements' spans, joined -/
theorem jnS_rt : ∀ (es : TEs) (e : (TE TF)) (i : Nat), At t i (e.rd ++ (TEs.rt es)) → jnS t ((TEs.sp (e :: es)) i) = e.rd ++ (TEs.rt es)
  | .nil, e, i, hA => by
    simp only [TEs.rt_nil, TEs.rt_cons, List.append_nil] at hA
    simp only [TEs.sp, jnS, TEs.rt_nil, TEs.rt_cons, List.append_nil]
    exact seg_At hA
  | .cons e2 es, e, i, hA => by
    simp only [TEs.rt_nil, TEs.rt_cons] at hA
    have ih := jnS_rt es e2 (i + e.rd.length + 1) hA.right.tail
    simp only [TEs.sp] at ih ⊢
    simp only [jnS, TEs.rt_nil, TEs.rt_cons]
    rw [seg_At hA.left, ih]
theorem jnS_rd (es : TEs) (i : Nat) (hA : At t i (TEs.rd es)) : jnS t ((TEs.sp es) i) = (TEs.rd es) := by
  cases es with
  | nil => simp [TEs.sp, jnS, TEs.rd_nil, TEs.rd_cons]
  | cons e es =>
    simp only [TEs.rd_nil, TEs.rd_cons] at hA ⊢
    exact jnS_rt es e i hA
theorem sp_len : ∀ (es : TEs) (i : Nat), ((TEs.sp es) i).length = (TEs.len es)
  | .nil, i => by simp [TEs.sp, TEs.len]
  | .cons e es, i => by simp [TEs.sp, TEs.len, sp_len es]
/-- with commas ahead -/
def jtS (t : ByteArray) : List (Nat × Nat) → List Int
  | [] => []
  | p :: r => 44 :: (seg t p.1 p.2 ++ jtS t r)
theorem jnS_cons (p : Nat × Nat) : ∀ r, jnS t (p :: r) = seg t p.1 p.2 ++ jtS t r
  | [] => by simp [jnS, jtS]
  | q :: r => by simp only [jnS, jtS]; rw [jnS_cons q r]
theorem jtS_all : ∀ (es : TEs) (i : Nat), At t i (TEs.rt es) → jtS t ((TEs.sp es) (i + 1)) = (TEs.rt es)
  | .nil, i, hA => by simp [TEs.sp, TEs.rt_nil, TEs.rt_cons, jtS]
  | .cons e es, i, hA => by
    simp only [TEs.rt_nil, TEs.rt_cons] at hA
    have ih := jtS_all es (i + 1 + e.rd.length) hA.tail.right
    simp only [TEs.sp, TEs.rt_nil, TEs.rt_cons, jtS]
    rw [seg_At hA.tail.left, ih]
theorem jtS_del : ∀ (es : TEs) (i k : Nat), At t i (TEs.rt es) → jtS t (((TEs.sp es) (i + 1)).eraseIdx k) = (TEs.rt (TEs.del es k))
  | .nil, i, k, hA => by simp [TEs.sp, TEs.del, TEs.rt_nil, TEs.rt_cons, jtS]
  | .cons e es, i, 0, hA => by
    simp only [TEs.rt_nil, TEs.rt_cons] at hA
    have h0 : jtS t ((TEs.sp es) (i + 1 + e.rd.length + 1)) = (TEs.rt es) := by
      have := jtS_all es (i + 1 + e.rd.length) hA.tail.right
      exact this
    simp only [TEs.sp, List.eraseIdx_cons_zero, TEs.del]
    exact h0
  | .cons e es, i, k + 1, hA => by
    simp only [TEs.rt_nil, TEs.rt_cons] at hA
    have ih := jtS_del es (i + 1 + e.rd.length) k hA.tail.right
    simp only [TEs.sp, List.eraseIdx_cons_succ, TEs.del, TEs.rt_nil, TEs.rt_cons, jtS]
    rw [seg_At hA.tail.left, ih]
theorem jnS_del (es : TEs) (i k : Nat) (hA : At t i (TEs.rd es)) : jnS t (((TEs.sp es) i).eraseIdx k) = (TEs.rd (TEs.del es k)) := by
  cases es with
  | nil => simp [TEs.sp, TEs.del, TEs.rd_nil, TEs.rd_cons, jnS]
  | cons e es =>
    simp only [TEs.rd_nil, TEs.rd_cons] at hA
    cases k with
    | zero =>
      simp only [TEs.sp, List.eraseIdx_cons_zero, TEs.del]
      cases es with
      | nil => simp [TEs.sp, TEs.rd_nil, TEs.rd_cons, jnS]
      | cons e2 es =>
        simp only [TEs.rt_nil, TEs.rt_cons] at hA
        exact jnS_rd _ _ (by simp only [TEs.rd_nil, TEs.rd_cons]; exact hA.right.tail)
    | succ k =>
      simp only [TEs.sp, List.eraseIdx_cons_succ, TEs.del, TEs.rd_nil, TEs.rd_cons]
      rw [jnS_cons, seg_At hA.left, jtS_del es (i + e.rd.length) k hA.right]
/-- a bracket's own steps -/
theorem woS_brk {o c : Int} {es : TEs} {i k x : Nat} (ho : cO o = true) (hc : cX c = true) (h : (TEs.ok s es) x) (hA : At t i (o :: ((TEs.rd es) ++ [c]))) (hz : i + (o :: ((TEs.rd es) ++ [c])).length ≤ t.size) :
    woS t i k = pcS t i (i + (o :: ((TEs.rd es) ++ [c])).length) (o :: ((TEs.rd (TEs.del es k)) ++ [c])) := by
  have hm := mt_brk ho hc (TEs.balr (t := t) es x h) hA
  have hcl : At t (i + 1 + (TEs.rd es).length) [c] := hA.tail.right
  have hl : (o :: ((TEs.rd es) ++ [c])).length = (TEs.rd es).length + 2 := by simp
  unfold woS pcS
  rw [elS_brk ho hc h hA, jnS_del es (i + 1) k hA.tail.left, hm, seg_rest hcl (by simp; omega)]
  have h1 : seg t 0 (i + 1) = seg t 0 i ++ [o] := by
    have hh : At t i [o] := At.cons hA.head (At.nil _)
    have := seg_front hh
    simpa using this
  rw [h1, show i + 1 + (TEs.rd es).length + [c].length = i + (o :: ((TEs.rd es) ++ [c])).length by simp; omega]
  simp
theorem pc_left {A B C : List Int} {i : Nat} (hA : At t i (A ++ B)) (hz : i + (A ++ B).length ≤ t.size) : pcS t i (i + A.length) C = pcS t i (i + (A ++ B).length) (C ++ B) := by
  unfold pcS
  rw [seg_rest hA.right (by simp at hz; omega), show i + A.length + B.length = i + (A ++ B).length by simp; omega]
  simp
theorem pc_right {A C : List Int} {i j : Nat} (hA : At t i A) : pcS t (i + A.length) j C = pcS t i j (A ++ C) := by
  unfold pcS
  rw [seg_front hA]; simp
theorem stS__all : (∀ z, (fun (e : (TE TF)) => ∀ (x i : Nat), e.ok s x → At t i e.rd → i + e.rd.length ≤ t.size → rgS t i e.rd.length = e.st.map fun e' => pcS t i (i + e.rd.length) e'.rd) z) ∧ (∀ z, (fun (fs : TFs) => ∀ (l : List Nat) (i : Nat), (TFs.ok s fs) l → At t i (TFs.rd fs) → i + (TFs.rd fs).length ≤ t.size → rgS t i (TFs.rd fs).length = (TFs.st fs).map fun fs' => pcS t i (i + (TFs.rd fs).length) (TFs.rd fs')) z) ∧ (∀ z, (fun (f : TF) => ∀ (p i : Nat), f.ok s p → At t i f.rd → i + f.rd.length ≤ t.size → rgS t i f.rd.length = f.st.map fun f' => pcS t i (i + f.rd.length) f'.rd) z) ∧ (∀ z, (fun (es : TEs) => ∀ (x i : Nat), (TEs.ok s es) x → At t i (TEs.rt es) → i + (TEs.rt es).length ≤ t.size → rgS t i (TEs.rt es).length = (TEs.st es).map fun es' => pcS t i (i + (TEs.rt es).length) (TEs.rt es')) z) := by
  refine tree_ind ?_ ?_ ?_ ?_ ?_ ?_ ?_ ?_
  · intro d fs ihfs x i h hA hz
    simp only [TE.ok_mk] at h
    obtain ⟨hd, a, _, h2⟩ := h
    simp only [TE.rd_mk, TE.st_mk, List.length_cons, List.map_map] at hA hz ⊢
    have hno := dig_no hd
    rw [show (TFs.rd fs).length + 1 = 1 + (TFs.rd fs).length by omega, rgS_add, rgS_one, stS_no (by rw [hA.head]; exact hno.1) (by rw [hA.head]; exact hno.2.1) (by rw [hA.head]; exact hno.2.2.1) (by rw [hA.head]; omega), ihfs _ (i + 1) h2 hA.tail (by omega), List.nil_append]
    refine List.map_congr_left (fun fs' _ => ?_)
    simp only [Function.comp, TE.rd_mk]
    have := pc_right (t := t) (j := i + 1 + (TFs.rd fs).length) (C := (TFs.rd fs')) (A := [48 + (d : Int)]) (At.cons hA.head (At.nil _))
    simp only [List.length_cons, List.length_nil, Nat.zero_add, List.cons_append, List.nil_append] at this
    rw [this]; congr 1; omega
  · intro l i h hA hz
    simp [TFs.rd_nil, TFs.rd_cons, TFs.st_nil, TFs.st_cons, rgS]
  · intro f fs ihf ihfs l i h hA hz
    simp only [TFs.ok_nil, TFs.ok_cons] at h
    obtain ⟨p, q, _, h1, h2⟩ := h
    simp only [TFs.rd_nil, TFs.rd_cons] at hA hz
    have hz' : i + (f.rd.length + (TFs.rd fs).length) ≤ t.size := by simpa using hz
    simp only [TFs.rd_nil, TFs.rd_cons, TFs.st_nil, TFs.st_cons, List.length_append, List.map_append, List.map_map]
    rw [rgS_add, ihf p i h1 hA.left (by omega), ihfs q (i + f.rd.length) h2 hA.right (by omega)]
    congr 1
    · refine List.map_congr_left (fun f' _ => ?_)
      simp only [Function.comp, TFs.rd_nil, TFs.rd_cons]
      rw [pc_left hA hz]; simp
    · refine List.map_congr_left (fun fs' _ => ?_)
      simp only [Function.comp, TFs.rd_nil, TFs.rd_cons]
      rw [pc_right hA.left]; congr 1; omega
  · intro c p i h hA hz
    simp only [TF.ok_lt, TF.ok_nm, TF.ok_br] at h
    obtain ⟨h1, h2⟩ := h
    simp only [TF.rd_lt, TF.rd_nm, TF.rd_br, TF.st_lt, TF.st_nm, TF.st_br] at hA hz ⊢
    have hno := let_nn (c := c) (by rw [h2]; exact h1)
    have hb := hA.head
    show rgS t i 1 = _
    rw [rgS_one, stS_no (by rw [hb]; exact hno.1) (by rw [hb]; exact hno.2.1) (by rw [hb]; exact hno.2.2.1) (by rw [hb]; exact hno.2.2.2)]; rfl
  · intro c e ihe p i h hA hz
    simp only [TF.ok_lt, TF.ok_nm, TF.ok_br] at h
    obtain ⟨h1, h2, h3⟩ := h
    have hcN : cN c = true := by rw [h2]; exact h1
    simp only [TF.rd_lt, TF.rd_nm, TF.rd_br] at hA hz
    have hm := mt_nm h3 hA
    have hl : (c :: 40 :: (e.rd ++ [41])).length = 1 + (1 + (e.rd.length + 1)) := by simp; omega
    have h41 : bt t ((i + 1 + 1 + e.rd.length : Nat) : Int) = 41 := hA.tail.tail.right.head
    have h40 : bt t ((i + 1 : Nat) : Int) = 40 := hA.tail.head
    have hb := hA.head
    simp only [TF.rd_lt, TF.rd_nm, TF.rd_br, TF.st_lt, TF.st_nm, TF.st_br, List.map_append, List.map_map]
    rw [hl] at hz ⊢
    rw [rgS_add, rgS_add, rgS_add, rgS_one, rgS_one, rgS_one, stS_no (i := i + 1) (by rw [h40]; decide) (by rw [h40]; decide) (by rw [h40]; decide) (by rw [h40]; decide), stS_no (i := i + 1 + 1 + e.rd.length) (by rw [h41]; decide) (by rw [h41]; decide) (by rw [h41]; decide) (by rw [h41]; decide), ihe _ (i + 1 + 1) h3 hA.tail.tail.left (by omega)]
    simp only [List.nil_append, List.append_nil]
    congr 1
    · unfold stS
      rw [if_pos (by rw [hb]; exact hcN)]
      unfold wnS
      rw [hb, hm, show i + 2 + e.rd.length - (i + 2) = e.rd.length by omega]
      have hin := TE.inS_ (t := t) hcN e _ (i + 2) h3 hA.tail.tail.left
      unfold inS at hin
      have : (nmS t c (i + 2) e.rd.length).map (fun j => seg t 0 i ++ (seg t j (mt t (j + 1) + 1) ++ seg t (i + 2 + e.rd.length + 1) t.size)) = ((nmS t c (i + 2) e.rd.length).map fun j => seg t j (mt t (j + 1) + 1)).map fun L => pcS t i (i + (1 + (1 + (e.rd.length + 1)))) L := by
        rw [List.map_map]
        refine List.map_congr_left (fun j _ => ?_)
        simp only [Function.comp, pcS]
        rw [show i + 2 + e.rd.length + 1 = i + (1 + (1 + (e.rd.length + 1))) by omega]
      rw [this, hin, List.map_map]; rfl
    · refine List.map_congr_left (fun e' _ => ?_)
      simp only [Function.comp, TF.rd_lt, TF.rd_nm, TF.rd_br]
      have hA3 : At t (i + 1 + 1) (e.rd ++ [41]) := hA.tail.tail
      rw [pc_left hA3 (by simp; omega)]
      have := pc_right (t := t) (j := i + 1 + 1 + (e.rd ++ [41]).length) (C := e'.rd ++ [41]) (A := [c, 40]) (At.cons hb (At.cons h40 (At.nil _)))
      simp only [List.length_cons, List.length_nil, Nat.zero_add, List.cons_append, List.nil_append] at this
      rw [show i + (1 + 1) = i + 1 + 1 by omega] at this
      rw [this]; congr 1; simp; omega
  · intro o es _ ihb p i h hA hz
    simp only [TF.ok_lt, TF.ok_nm, TF.ok_br] at h
    obtain ⟨h1, h2, h5, h3⟩ := h
    have ho : cO o = true := by rw [h2]; exact h1
    have hc0 : cC o ≠ 0 := by simpa [cO] using ho
    have hcx := cX_cC _ hc0
    simp only [TF.rd_lt, TF.rd_nm, TF.rd_br] at hA hz
    have hl : (o :: ((TEs.rd es) ++ [cC o])).length = 1 + ((TEs.rd es).length + 1) := by simp; omega
    have hcl : bt t ((i + 1 + (TEs.rd es).length : Nat) : Int) = cC o := hA.tail.right.head
    have hb := hA.head
    have hcn := cls_no hcx
    have hov := cO_vals ho
    have hown : stS t i = (List.range (ownN o (TEs.len es))).map fun k => pcS t i (i + (o :: ((TEs.rd es) ++ [cC o])).length) (o :: ((TEs.rd (TEs.del es k)) ++ [cC o])) := by
      have hlen : (elS t i).length = (TEs.len es) := by rw [elS_brk ho hcx h3 hA, sp_len]
      have hw : ∀ k, woS t i k = pcS t i (i + (o :: ((TEs.rd es) ++ [cC o])).length) (o :: ((TEs.rd (TEs.del es k)) ++ [cC o])) := fun k => woS_brk ho hcx h3 hA hz
      unfold stS ownN
      rw [hb, hlen, if_neg (by rcases hov with h | h | h | h <;> rw [h] <;> decide)]
      by_cases q1 : o = 91
      · rw [if_pos q1]
        by_cases q2 : (TEs.len es) = 1
        · rw [if_pos ⟨q1, q2⟩, if_pos q2]
          simp [hw]
        · rw [if_neg (fun h => q2 h.2), if_neg (fun h => by rcases h with h | h; omega; omega), if_neg q2]; rfl
      · rw [if_neg (fun h => q1 h.1), if_neg q1]
        by_cases q2 : o = 123
        · rw [if_pos (.inl q2), if_pos q2]
          exact List.map_congr_left (fun k _ => hw k)
        · rw [if_neg q2]
          by_cases q3 : o = 60
          · rw [if_pos q3]
            by_cases q4 : 1 < (TEs.len es)
            · rw [if_pos (.inr ⟨q3, q4⟩), if_pos q4]
              exact List.map_congr_left (fun k _ => hw k)
            · rw [if_neg (fun h => by rcases h with h | h; exact q2 h; exact q4 h.2), if_neg q4]; rfl
          · rw [if_neg (fun h => by rcases h with h | h; exact q2 h; exact q3 h.1), if_neg q3]; rfl
    have hes : rgS t (i + 1) (TEs.rd es).length = (TEs.st es).map fun es' => pcS t (i + 1) (i + 1 + (TEs.rd es).length) (TEs.rd es') := by
      have hA2 := hA.tail.left
      cases es with
      | nil => simp [TEs.rd_nil, TEs.rd_cons, TEs.st_nil, TEs.st_cons, rgS]
      | cons e es =>
        simp only [TEs.ok_nil, TEs.ok_cons] at h3
        have hz2 : i + 1 + (e.rd ++ (TEs.rt es)).length ≤ t.size := by rw [hl] at hz; simp only [TEs.rd_nil, TEs.rd_cons] at hz; omega
        simp only [TEs.rd_nil, TEs.rd_cons] at hA2
        simp only [TEs.rd_nil, TEs.rd_cons, TEs.st_nil, TEs.st_cons, List.map_append, List.map_map]
        have hz3 : i + 1 + (e.rd.length + (TEs.rt es).length) ≤ t.size := by simpa using hz2
        rw [List.length_append, rgS_add, (ihb _ _ rfl).1 _ (i + 1) h3.1 hA2.left (by omega), (ihb _ _ rfl).2 _ (i + 1 + e.rd.length) h3.2 hA2.right (by omega)]
        congr 1
        · refine List.map_congr_left (fun e' _ => ?_)
          simp only [Function.comp, TEs.rd_nil, TEs.rd_cons]
          rw [pc_left hA2 hz2]; simp
        · refine List.map_congr_left (fun es' _ => ?_)
          simp only [Function.comp, TEs.rd_nil, TEs.rd_cons]
          rw [pc_right hA2.left]; congr 1; omega
    simp only [TF.rd_lt, TF.rd_nm, TF.rd_br, TF.st_lt, TF.st_nm, TF.st_br, List.map_append, List.map_map]
    rw [hl] at hz ⊢
    rw [rgS_add, rgS_add, rgS_one, rgS_one, hown, hes, stS_no (i := i + 1 + (TEs.rd es).length) (by rw [hcl]; exact hcn.1) (by rw [hcl]; exact hcn.2.1) (by rw [hcl]; exact hcn.2.2.1) (by rw [hcl]; exact hcn.2.2.2), List.append_nil]
    congr 1
    · refine List.map_congr_left (fun k _ => ?_)
      simp only [Function.comp, TF.rd_lt, TF.rd_nm, TF.rd_br]
      rw [hl]
    · refine List.map_congr_left (fun es' _ => ?_)
      simp only [Function.comp, TF.rd_lt, TF.rd_nm, TF.rd_br]
      have hA3 : At t (i + 1) ((TEs.rd es) ++ [cC o]) := hA.tail
      rw [pc_left hA3 (by simp; omega)]
      have := pc_right (t := t) (j := i + 1 + ((TEs.rd es) ++ [cC o]).length) (C := (TEs.rd es') ++ [cC o]) (A := [o]) (At.cons hb (At.nil _))
      simp only [List.length_cons, List.length_nil, Nat.zero_add, List.cons_append, List.nil_append] at this
      rw [this]; congr 1; simp; omega
  · intro x i h hA hz
    simp [TEs.rt_nil, TEs.rt_cons, TEs.st_nil, TEs.st_cons, rgS]
  · intro e es ihe ihes x i h hA hz
    simp only [TEs.ok_nil, TEs.ok_cons] at h
    simp only [TEs.rt_nil, TEs.rt_cons] at hA hz
    have hl : (44 :: (e.rd ++ (TEs.rt es))).length = 1 + (e.rd.length + (TEs.rt es).length) := by simp; omega
    have hb := hA.head
    have hA2 := hA.tail
    rw [hl] at hz
    have hz2 : i + 1 + (e.rd ++ (TEs.rt es)).length ≤ t.size := by simp; omega
    simp only [TEs.rt_nil, TEs.rt_cons, TEs.st_nil, TEs.st_cons, List.map_append, List.map_map]
    rw [hl, rgS_add, rgS_add, rgS_one, stS_no (by rw [hb]; decide) (by rw [hb]; decide) (by rw [hb]; decide) (by rw [hb]; decide), List.nil_append, ihe _ (i + 1) h.1 hA2.left (by omega), ihes _ (i + 1 + e.rd.length) h.2 hA2.right (by omega)]
    have hone : ∀ j C, pcS t (i + 1) j C = pcS t i j (44 :: C) := fun j C => by
      have := pc_right (t := t) (j := j) (C := C) (A := [44]) (At.cons hb (At.nil _))
      simpa using this
    congr 1
    · refine List.map_congr_left (fun e' _ => ?_)
      simp only [Function.comp, TEs.rt_nil, TEs.rt_cons]
      rw [pc_left hA2 hz2, hone]; congr 1; simp; omega
    · refine List.map_congr_left (fun es' _ => ?_)
      simp only [Function.comp, TEs.rt_nil, TEs.rt_cons]
      rw [pc_right hA2.left, hone]; congr 1; omega
theorem TE.stS_ : ∀ (e : (TE TF)) (x i : Nat), e.ok s x → At t i e.rd → i + e.rd.length ≤ t.size → rgS t i e.rd.length = e.st.map fun e' => pcS t i (i + e.rd.length) e'.rd := stS__all.1
theorem TFs.stS_ : ∀ (fs : TFs) (l : List Nat) (i : Nat), (TFs.ok s fs) l → At t i (TFs.rd fs) → i + (TFs.rd fs).length ≤ t.size → rgS t i (TFs.rd fs).length = (TFs.st fs).map fun fs' => pcS t i (i + (TFs.rd fs).length) (TFs.rd fs') := stS__all.2.1
theorem TF.stS_ : ∀ (f : TF) (p i : Nat), f.ok s p → At t i f.rd → i + f.rd.length ≤ t.size → rgS t i f.rd.length = f.st.map fun f' => pcS t i (i + f.rd.length) f'.rd := stS__all.2.2.1
theorem TEs.stS_ : ∀ (es : TEs) (x i : Nat), (TEs.ok s es) x → At t i (TEs.rt es) → i + (TEs.rt es).length ≤ t.size → rgS t i (TEs.rt es).length = (TEs.st es).map fun es' => pcS t i (i + (TEs.rt es).length) (TEs.rt es') := stS__all.2.2.2
/-- the steps of a tree's text -/
theorem stS_all {f : TF} (h : TreeOf s t f) : rgS t 0 t.size = f.st.map TF.rd := by
  have h1 := TF.stS_ f 0 0 h.ok h.at_ (by have := h.sz; omega)
  rw [← h.sz] at h1
  rw [h1]
  refine List.map_congr_left (fun f' _ => ?_)
  simp [pcS, seg_self]
end
end Go.Proofs.YtnfaiaoipeholaaGreatDoor

namespace Go.Proofs.YtnfaiaoipeholaaGreatDoor
set_option linter.unusedSimpArgs false
set_option linter.unusedVariables false
/-- how a byte turns the depth of options -/
def sqd (c d : Int) : Int := if c = 91 then d + 1 else if c = 93 then d - 1 else d
/-- behind the option, from a place and a depth on -/
def sqF (t : ByteArray) : Nat → Nat → Int → Nat
  | 0, j, _ => j
  | n + 1, j, d => if 0 < d then sqF t n (j + 1) (sqd (bt t j) d) else j
def sqK (t : ByteArray) (j : Nat) (d : Int) : Nat := sqF t (t.size - j) j d
section
variable {s t : ByteArray}
theorem sqK_step {j : Nat} {d : Int} (h : j < t.size) (hd : 0 < d) : sqK t j d = sqK t (j + 1) (sqd (bt t j) d) := by
  unfold sqK
  rw [show t.size - j = (t.size - (j + 1)) + 1 by omega]
  show (if 0 < d then sqF t (t.size - (j + 1)) (j + 1) (sqd (bt t j) d) else j) = _
  rw [if_pos hd]
/-- over these bytes the depth of options comes back -/
def BalS (t : ByteArray) (L : List Int) : Prop := ∀ i (d : Int), 1 ≤ d → At t i L → sqK t i d = sqK t (i + L.length) d
theorem BalS.nil : BalS t [] := fun _ _ _ _ => rfl
theorem BalS.plain {c : Int} {L : List Int} (h : c ≠ 0) (h1 : c ≠ 91) (h2 : c ≠ 93) (g : BalS t L) : BalS t (c :: L) := fun i d hd hA => by
  have hb := hA.head
  rw [sqK_step (bt_lt (by rw [hb]; exact h)) (by omega), hb, show sqd c d = d by unfold sqd; rw [if_neg h1, if_neg h2], g (i + 1) d hd hA.tail]
  simp only [List.length_cons]; congr 1; omega
theorem BalS.app {A B : List Int} (h : BalS t A) (g : BalS t B) : BalS t (A ++ B) := fun i d hd hA => by
  rw [h i d hd hA.left, g _ d hd hA.right]
  simp only [List.length_append]; congr 1; omega
end
end Go.Proofs.YtnfaiaoipeholaaGreatDoor

namespace Go.Proofs.YtnfaiaoipeholaaGreatDoor
section
variable {s t u : ByteArray}
end
end Go.Proofs.YtnfaiaoipeholaaGreatDoor
