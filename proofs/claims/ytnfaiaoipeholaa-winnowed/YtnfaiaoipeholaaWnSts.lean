/- The steps that the program finds, place by place: where parts end. No Go here. -/
import Derived.Test.YtnfaiaoipeholaaWnTrj
namespace Go.Proofs.Ytnfaiaoipeholaa
set_option linter.unusedSimpArgs false
set_option linter.unusedVariables false
/-- where the part ends that begins here -/
def en (t : ByteArray) (j : Nat) : Nat := if cO (bt t j) = true then mt t j + 1 else j + 1
/-- the same, of any place -/
def enP (t : ByteArray) (j : Nat) : Nat := if j < t.size then en t j else t.size
/-- where an element ends -/
def eqeF (t : ByteArray) : Nat → Nat → Nat
  | 0, e => e
  | n + 1, e => if e < t.size ∧ bt t e ≠ 44 ∧ cX (bt t e) = false then eqeF t n (en t e) else e
def elE (t : ByteArray) (i : Nat) : Nat := eqeF t t.size i
/-- a step: what is left stands ahead of the first place, between the next two, from the last on -/
abbrev Qd := Nat × Nat × Nat × Nat
/-- the text that a step makes -/
def qT (t : ByteArray) (q : Qd) : List Int := if q.1 ≤ q.2.1 ∧ q.2.1 ≤ q.2.2.1 ∧ q.2.2.1 ≤ q.2.2.2 ∧ q.2.2.2 ≤ t.size then seg t 0 q.1 ++ (seg t q.2.1 q.2.2.1 ++ seg t q.2.2.2 t.size) else seg t 0 t.size
def cutQ (a b : Nat) : Qd := (a, b, b, b)
/-- an option's step -/
def optQ (t : ByteArray) (i : Nat) : List Qd := if i + 1 < enP t i - 1 then [cutQ (i + 1) (enP t i - 1)] else []
/-- an element's -/
def eleQ (t : ByteArray) (i : Nat) : List Qd :=
  if bt t ((i : Int) - 1) = 44 then [cutQ (i - 1) (elE t i)]
  else if bt t (elE t i) = 44 then [cutQ i (elE t i + 1)]
  else if bt t ((i : Int) - 1) = 123 then [cutQ i (elE t i)]
  else []
/-- a name's -/
def namQ (t : ByteArray) (i : Nat) : List Qd := (nmS t (bt t i) (i + 1) (enP t (i + 1) - (i + 1))).reverse.map fun j => (i, j, enP t (j + 1), enP t (i + 1))
/-- those that are found at a place -/
def plQ (t : ByteArray) (i : Nat) : List Qd := (if bt t i = 91 then optQ t i else []) ++ ((if cN (bt t i) = true then namQ t i else []) ++ (if cD (bt t i) = true then eleQ t i else []))
/-- all of them -/
def allQ (t : ByteArray) : List Qd := (List.range t.size).flatMap (plQ t)
/-- their texts, over some places -/
def pgT (t : ByteArray) (i n : Nat) : List (List Int) := (List.range' i n).flatMap fun j => (plQ t j).map (qT t)
section
variable {s t : ByteArray}
theorem pgT_add (t : ByteArray) (i n m : Nat) : pgT t i (n + m) = pgT t i n ++ pgT t (i + n) m := by
  unfold pgT
  rw [← List.range'_append_1, List.flatMap_append]
theorem pgT_one (t : ByteArray) (i : Nat) : pgT t i 1 = (plQ t i).map (qT t) := by simp [pgT]
theorem plQ_no {i : Nat} (h1 : bt t i ≠ 91) (h2 : cN (bt t i) = false) (h3 : cD (bt t i) = false) : plQ t i = [] := by
  unfold plQ
  rw [if_neg h1, if_neg (by simp [h2]), if_neg (by simp [h3])]; rfl
theorem pgT_no {i : Nat} (h1 : bt t i ≠ 91) (h2 : cN (bt t i) = false) (h3 : cD (bt t i) = false) : pgT t i 1 = [] := by
  rw [pgT_one, plQ_no h1 h2 h3]; rfl
theorem pgT_dig {i : Nat} (h : cD (bt t i) = true) : pgT t i 1 = (eleQ t i).map (qT t) := by
  have hv : 48 ≤ bt t i ∧ bt t i ≤ 57 := by simpa [cD] using h
  rw [pgT_one]
  unfold plQ
  rw [if_neg (by omega), if_neg (by simp [cN]; omega), if_pos h]; rfl
theorem qT_cut {a b : Nat} (h1 : a ≤ b) (h2 : b ≤ t.size) : qT t (cutQ a b) = seg t 0 a ++ seg t b t.size := by
  unfold qT cutQ
  simp only
  rw [if_pos ⟨h1, Nat.le_refl _, Nat.le_refl _, h2⟩, seg_self]; rfl
/-- an element goes on over these bytes -/
def EE (t : ByteArray) (L : List Int) : Prop := ∀ n i, At t i L → L.length ≤ n → ∃ n', n - L.length ≤ n' ∧ eqeF t n i = eqeF t n' (i + L.length)
theorem EE.nil : EE t [] := fun n _ _ _ => ⟨n, by simp, rfl⟩
theorem EE.app {A B : List Int} (h : EE t A) (g : EE t B) : EE t (A ++ B) := fun n i hA hn => by
  simp only [List.length_append] at hn ⊢
  obtain ⟨n1, q1, q2⟩ := h n i hA.left (by omega)
  obtain ⟨n2, q3, q4⟩ := g n1 (i + A.length) hA.right (by omega)
  exact ⟨n2, by omega, by rw [q2, q4]; congr 1; omega⟩
theorem EE.plain {c : Int} {L : List Int} (h : Pl c) (g : EE t L) : EE t (c :: L) := fun n i hA hn => by
  simp only [List.length_cons] at hn ⊢
  obtain ⟨m, rfl⟩ : ∃ m, n = m + 1 := ⟨n - 1, by omega⟩
  obtain ⟨n2, q3, q4⟩ := g m (i + 1) hA.tail (by omega)
  have hb := hA.head
  refine ⟨n2, by omega, ?_⟩
  conv => lhs; unfold eqeF
  rw [if_pos ⟨bt_lt (by rw [hb]; exact h.1), by rw [hb]; exact h.2.2.2, by rw [hb]; exact h.2.2.1⟩]
  unfold en
  rw [if_neg (by rw [hb, h.2.1]; decide), q4]
  congr 1; omega
theorem EE.brk {o c : Int} {L : List Int} (ho : cO o = true) (hc : cX c = true) (g : Bal t L) : EE t (o :: (L ++ [c])) := fun n i hA hn => by
  simp only [List.length_cons, List.length_append, List.length_nil] at hn ⊢
  obtain ⟨m, rfl⟩ : ∃ m, n = m + 1 := ⟨n - 1, by omega⟩
  have hb := hA.head
  have hov := cO_vals ho
  have hox : cX o = false := by rcases hov with h | h | h | h <;> rw [h] <;> decide
  refine ⟨m, by omega, ?_⟩
  conv => lhs; unfold eqeF
  rw [if_pos ⟨bt_lt (by rw [hb]; omega), by rw [hb]; omega, by rw [hb]; exact hox⟩]
  unfold en
  rw [if_pos (by rw [hb]; exact ho), mt_brk ho hc g hA]
  congr 1; omega
theorem ee_all : (∀ z, (fun (e : (TE TF)) => ∀ (x : Nat), e.ok s x → EE t e.rd) z) ∧ (∀ z, (fun (fs : TFs) => ∀ (l : List Nat), (TFs.ok s fs) l → EE t (TFs.rd fs)) z) ∧ (∀ z, (fun (f : TF) => ∀ (p : Nat), f.ok s p → EE t f.rd) z) ∧ (∀ z, (fun (_ : TEs) => True) z) := by
  refine tree_ind ?_ ?_ ?_ ?_ ?_ ?_ ?_ ?_
  · intro d fs ihfs x h
    simp only [TE.ok_mk] at h
    obtain ⟨hd, a, _, h2⟩ := h
    simp only [TE.rd_mk]
    exact EE.plain (pl_dig hd) (ihfs _ h2)
  · intro l h
    simp only [TFs.rd_nil, TFs.rd_cons]; exact EE.nil
  · intro f fs ihf ihfs l h
    simp only [TFs.ok_nil, TFs.ok_cons] at h
    obtain ⟨p, q, _, h1, h2⟩ := h
    simp only [TFs.rd_nil, TFs.rd_cons]
    exact (ihf p h1).app (ihfs q h2)
  · intro c p h
    simp only [TF.ok_lt, TF.ok_nm, TF.ok_br] at h
    obtain ⟨h1, h2⟩ := h
    simp only [TF.rd_lt, TF.rd_nm, TF.rd_br]
    exact EE.plain (pl_let (by rw [h2]; exact h1)) EE.nil
  · intro c e _ p h
    simp only [TF.ok_lt, TF.ok_nm, TF.ok_br] at h
    obtain ⟨h1, h2, h3⟩ := h
    simp only [TF.rd_lt, TF.rd_nm, TF.rd_br]
    exact EE.plain (pl_nam (by rw [h2]; exact h1)) (EE.brk (by decide) (by decide) (TE.bal e _ h3))
  · intro o es _ _ p h
    simp only [TF.ok_lt, TF.ok_nm, TF.ok_br] at h
    obtain ⟨h1, h2, _, h3⟩ := h
    have hc0 : cC o ≠ 0 := by rw [h2]; simpa [cO] using h1
    simp only [TF.rd_lt, TF.rd_nm, TF.rd_br]
    exact EE.brk (by rw [h2]; exact h1) (cX_cC _ hc0) (TEs.balr es _ h3)
  · exact trivial
  · exact fun _ _ _ _ => trivial
theorem TE.ee : ∀ (e : (TE TF)) (x : Nat), e.ok s x → EE t e.rd := ee_all.1
theorem TFs.ee : ∀ (fs : TFs) (l : List Nat), (TFs.ok s fs) l → EE t (TFs.rd fs) := ee_all.2.1
theorem TF.ee : ∀ (f : TF) (p : Nat), f.ok s p → EE t f.rd := ee_all.2.2.1
/-- an element ends behind its bytes -/
theorem elE_at {e : (TE TF)} {x i : Nat} (h : e.ok s x) (hA : At t i e.rd) (hz : i + e.rd.length ≤ t.size) (hx : bt t (i + e.rd.length : Nat) = 44 ∨ cX (bt t (i + e.rd.length : Nat)) = true) : elE t i = i + e.rd.length := by
  obtain ⟨n', q1, q2⟩ := TE.ee (t := t) e x h t.size i hA (by omega)
  unfold elE
  rw [q2]
  cases n' with
  | zero => rfl
  | succ n' =>
    unfold eqeF
    rw [if_neg]
    rintro ⟨_, h1, h2⟩
    rcases hx with hx | hx
    · exact h1 hx
    · rw [hx] at h2; cases h2
/-- a name has its brackets -/
def Nam (t : ByteArray) (j e : Nat) : Prop := bt t (j + 1 : Nat) = 40 ∧ j + 1 < mt t (j + 1) ∧ mt t (j + 1) + 1 ≤ e
theorem Nam.le {j e e' : Nat} (h : Nam t j e) (g : e ≤ e') : Nam t j e' := ⟨h.1, h.2.1, by have := h.2.2; omega⟩
theorem nam_all : (∀ z, (fun (e : (TE TF)) => ∀ (x a i : Nat), e.ok s x → At t a e.rd → a ≤ i → i < a + e.rd.length → cN (bt t i) = true → Nam t i (a + e.rd.length)) z) ∧ (∀ z, (fun (fs : TFs) => ∀ (l : List Nat) (a i : Nat), (TFs.ok s fs) l → At t a (TFs.rd fs) → a ≤ i → i < a + (TFs.rd fs).length → cN (bt t i) = true → Nam t i (a + (TFs.rd fs).length)) z) ∧ (∀ z, (fun (f : TF) => ∀ (p a i : Nat), f.ok s p → At t a f.rd → a ≤ i → i < a + f.rd.length → cN (bt t i) = true → Nam t i (a + f.rd.length)) z) ∧ (∀ z, (fun (es : TEs) => ∀ (x a i : Nat), (TEs.ok s es) x → At t a (TEs.rt es) → a ≤ i → i < a + (TEs.rt es).length → cN (bt t i) = true → Nam t i (a + (TEs.rt es).length)) z) := by
  refine tree_ind ?_ ?_ ?_ ?_ ?_ ?_ ?_ ?_
  · intro d fs ihfs x a i h hA h1 h2 hb
    have hv : 65 ≤ bt t i ∧ bt t i ≤ 90 := by simpa [cN] using hb
    simp only [TE.ok_mk] at h
    obtain ⟨hd, y, _, h3⟩ := h
    simp only [TE.rd_mk, List.length_cons] at hA h2 ⊢
    by_cases e : i = a
    · subst e; have := hA.head; omega
    · exact (ihfs _ (a + 1) i h3 hA.tail (by omega) (by omega) hb).le (by omega)
  · intro l a i h hA h1 h2 hb
    simp [TFs.rd_nil, TFs.rd_cons] at h2; omega
  · intro f fs ihf ihfs l a i h hA h1 h2 hb
    simp only [TFs.ok_nil, TFs.ok_cons] at h
    obtain ⟨p, q, _, h3, h4⟩ := h
    simp only [TFs.rd_nil, TFs.rd_cons, List.length_append] at hA h2 ⊢
    by_cases e : i < a + f.rd.length
    · exact (ihf p a i h3 hA.left h1 e hb).le (by omega)
    · exact (ihfs q (a + f.rd.length) i h4 hA.right (by omega) (by omega) hb).le (by omega)
  · intro c p a i h hA h1 h2 hb
    have hv : 65 ≤ bt t i ∧ bt t i ≤ 90 := by simpa [cN] using hb
    simp only [TF.ok_lt, TF.ok_nm, TF.ok_br] at h
    simp only [TF.rd_lt, TF.rd_nm, TF.rd_br, List.length_cons, List.length_nil] at hA h2
    have e : i = a := by omega
    subst e
    have hw : 97 ≤ bt s p ∧ bt s p ≤ 122 := by simpa [cL] using h.1
    have := hA.head
    omega
  · intro c e ihe p a i h hA h1 h2 hb
    have hv : 65 ≤ bt t i ∧ bt t i ≤ 90 := by simpa [cN] using hb
    simp only [TF.ok_lt, TF.ok_nm, TF.ok_br] at h
    obtain ⟨g1, g2, g3⟩ := h
    have hA0 := hA
    simp only [TF.rd_lt, TF.rd_nm, TF.rd_br, List.length_cons, List.length_append, List.length_nil] at hA h2 ⊢
    have h41 : bt t ((a + 1 + 1 + e.rd.length : Nat) : Int) = 41 := hA.tail.tail.right.head
    have h40 : bt t ((a + 1 : Nat) : Int) = 40 := hA.tail.head
    by_cases e0 : i = a
    · subst e0
      have hm := mt_nm g3 hA
      exact ⟨h40, by omega, by omega⟩
    by_cases e1 : i = a + 1
    · subst e1; omega
    by_cases e2 : i = a + 1 + 1 + e.rd.length
    · subst e2; omega
    exact (ihe _ (a + 1 + 1) i g3 hA.tail.tail.left (by omega) (by omega) hb).le (by omega)
  · intro o es _ ihb p a i h hA h1 h2 hb
    have hv : 65 ≤ bt t i ∧ bt t i ≤ 90 := by simpa [cN] using hb
    simp only [TF.ok_lt, TF.ok_nm, TF.ok_br] at h
    obtain ⟨g1, g2, g5, g3⟩ := h
    simp only [TF.rd_lt, TF.rd_nm, TF.rd_br, List.length_cons, List.length_append, List.length_nil] at hA h2 ⊢
    have hcl : bt t ((a + 1 + (TEs.rd es).length : Nat) : Int) = cC o := hA.tail.right.head
    have hcv := cC_vals o
    have hov := cO_vals g1
    by_cases e0 : i = a
    · subst e0; have := hA.head; omega
    by_cases e2 : i = a + 1 + (TEs.rd es).length
    · subst e2; omega
    have hA2 := hA.tail.left
    have h5 : a + 1 ≤ i := by omega
    have h6 : i < a + 1 + (TEs.rd es).length := by omega
    cases es with
    | nil => simp [TEs.rd_nil, TEs.rd_cons] at h6; omega
    | cons e es =>
      simp only [TEs.ok_nil, TEs.ok_cons] at g3
      simp only [TEs.rd_nil, TEs.rd_cons, List.length_append] at hA2 h6 ⊢
      by_cases e4 : i < a + 1 + e.rd.length
      · exact ((ihb _ _ rfl).1 _ (a + 1) i g3.1 hA2.left h5 e4 hb).le (by omega)
      · exact ((ihb _ _ rfl).2 _ (a + 1 + e.rd.length) i g3.2 hA2.right (by omega) (by omega) hb).le (by omega)
  · intro x a i h hA h1 h2 hb
    simp [TEs.rt_nil, TEs.rt_cons] at h2; omega
  · intro e es ihe ihes x a i h hA h1 h2 hb
    have hv : 65 ≤ bt t i ∧ bt t i ≤ 90 := by simpa [cN] using hb
    simp only [TEs.ok_nil, TEs.ok_cons] at h
    simp only [TEs.rt_nil, TEs.rt_cons, List.length_cons, List.length_append] at hA h2 ⊢
    by_cases e0 : i = a
    · subst e0; have := hA.head; omega
    by_cases e4 : i < a + 1 + e.rd.length
    · exact (ihe _ (a + 1) i h.1 hA.tail.left (by omega) e4 hb).le (by omega)
    · exact (ihes _ (a + 1 + e.rd.length) i h.2 hA.tail.right (by omega) (by omega) hb).le (by omega)
theorem TE.nam : ∀ (e : (TE TF)) (x a i : Nat), e.ok s x → At t a e.rd → a ≤ i → i < a + e.rd.length → cN (bt t i) = true → Nam t i (a + e.rd.length) := nam_all.1
theorem TFs.nam : ∀ (fs : TFs) (l : List Nat) (a i : Nat), (TFs.ok s fs) l → At t a (TFs.rd fs) → a ≤ i → i < a + (TFs.rd fs).length → cN (bt t i) = true → Nam t i (a + (TFs.rd fs).length) := nam_all.2.1
theorem TF.nam : ∀ (f : TF) (p a i : Nat), f.ok s p → At t a f.rd → a ≤ i → i < a + f.rd.length → cN (bt t i) = true → Nam t i (a + f.rd.length) := nam_all.2.2.1
theorem TEs.nam : ∀ (es : TEs) (x a i : Nat), (TEs.ok s es) x → At t a (TEs.rt es) → a ≤ i → i < a + (TEs.rt es).length → cN (bt t i) = true → Nam t i (a + (TEs.rt es).length) := nam_all.2.2.2
end
end Go.Proofs.Ytnfaiaoipeholaa
/- The steps that the program finds are those of the tree, in another order. No Go here. -/
namespace Go.Proofs.Ytnfaiaoipeholaa
set_option linter.unusedSimpArgs false
set_option linter.unusedVariables false
section
variable {s t : ByteArray}
theorem perm_mid {α : Type} (a b c : List α) : List.Perm (a ++ (b ++ c)) (b ++ (a ++ c)) := by
  rw [← List.append_assoc, ← List.append_assoc]
  exact List.Perm.append_right c List.perm_append_comm
theorem nmS_cut {c : Int} {i n : Nat} (h1 : bt t i ≠ c) (h2 : bt t (i + 1 + n : Nat) ≠ c) : nmS t c i (n + 2) = nmS t c (i + 1) n := by
  rw [show n + 2 = 1 + (n + 1) by omega, nmS_add, nmS_add, nmS_one, nmS_one, if_neg h1, if_neg h2]
  simp
/-- a name's steps -/
theorem namQ_nm {c : Int} {e : (TE TF)} {i x : Nat} (hc : cN c = true) (h : e.ok s x) (hA : At t i (c :: 40 :: (e.rd ++ [41]))) (hz : i + (c :: 40 :: (e.rd ++ [41])).length ≤ t.size) :
    List.Perm ((namQ t i).map (qT t)) ((e.inn c).map fun g => pcS t i (i + (c :: 40 :: (e.rd ++ [41])).length) g.rd) := by
  have hv : 65 ≤ c ∧ c ≤ 90 := by simpa [cN] using hc
  have hl : (c :: 40 :: (e.rd ++ [41])).length = e.rd.length + 3 := by simp
  have hm := mt_nm h hA
  have hb := hA.head
  have h40 : bt t ((i + 1 : Nat) : Int) = 40 := hA.tail.head
  have h41 : bt t ((i + 1 + 1 + e.rd.length : Nat) : Int) = 41 := hA.tail.tail.right.head
  have he : enP t (i + 1) = i + (c :: 40 :: (e.rd ++ [41])).length := by
    unfold enP en
    rw [if_pos (by omega), if_pos (by rw [h40]; decide), hm, hl]; omega
  have hin := TE.inS_ (t := t) hc e _ (i + 2) h hA.tail.tail.left
  unfold inS at hin
  unfold namQ
  rw [hb, he, hl, show i + (e.rd.length + 3) - (i + 1) = e.rd.length + 2 by omega, nmS_cut (by rw [h40]; omega) (by rw [h41]; omega), List.map_reverse, List.map_reverse]
  refine (List.reverse_perm _).trans ?_
  rw [show ((e.inn c).map fun g => pcS t i (i + (e.rd.length + 3)) g.rd) = ((e.inn c).map TF.rd).map fun L => pcS t i (i + (e.rd.length + 3)) L by rw [List.map_map]; rfl, ← hin, List.map_map, List.map_map]
  refine List.Perm.of_eq (List.map_congr_left (fun j hj => ?_))
  have hj' : i + 2 ≤ j ∧ j < i + 2 + e.rd.length ∧ bt t j = c := by
    unfold nmS at hj
    simp only [List.mem_filter, List.mem_range'_1, decide_eq_true_eq] at hj
    omega
  obtain ⟨n1, n2, n3⟩ := TE.nam (t := t) e _ (i + 2) j h hA.tail.tail.left hj'.1 hj'.2.1 (by rw [hj'.2.2]; exact hc)
  have hek : enP t (j + 1) = mt t (j + 1) + 1 := by
    unfold enP en
    rw [if_pos (by omega), if_pos (by rw [n1]; decide)]
  simp only [Function.comp]
  unfold qT pcS
  simp only
  rw [hek, if_pos ⟨by omega, by omega, by omega, by omega⟩]
theorem seg_less {L : List Int} {i : Nat} (h : At t i L) (hz : i + L.length ≤ t.size) {j : Nat} (hj : j = i + L.length) : L ++ seg t j t.size = seg t i t.size := by
  rw [hj, ← seg_rest h hz]
/-- the step that an element makes that has a comma ahead -/
theorem eleQ_com {e : (TE TF)} {i x : Nat} (h : e.ok s x) (hb : bt t i = 44) (hA : At t (i + 1) e.rd) (hz : i + 1 + e.rd.length ≤ t.size) (hx : bt t (i + 1 + e.rd.length : Nat) = 44 ∨ cX (bt t (i + 1 + e.rd.length : Nat)) = true) :
    (eleQ t (i + 1)).map (qT t) = [pcS t i (i + 1 + e.rd.length) []] := by
  unfold eleQ
  rw [show (((i + 1 : Nat) : Int) - 1) = (i : Int) by omega, if_pos hb, elE_at h hA hz hx]
  simp only [List.map_cons, List.map_nil, Nat.add_sub_cancel]
  rw [qT_cut (by omega) hz]
  simp [pcS]
/-- with a comma behind, none ahead -/
theorem eleQ_fst {e : (TE TF)} {i x : Nat} (h : e.ok s x) (hb : bt t i ≠ 44) (hA : At t (i + 1) e.rd) (hz : i + 1 + e.rd.length < t.size) (hx : bt t (i + 1 + e.rd.length : Nat) = 44) :
    (eleQ t (i + 1)).map (qT t) = [pcS t (i + 1) (i + 1 + e.rd.length + 1) []] := by
  unfold eleQ
  rw [show (((i + 1 : Nat) : Int) - 1) = (i : Int) by omega, if_neg hb, elE_at h hA (by omega) (.inl hx), if_pos hx]
  simp only [List.map_cons, List.map_nil]
  rw [qT_cut (by omega) (by omega)]
  simp [pcS]
/-- alone -/
theorem eleQ_one {e : (TE TF)} {i x : Nat} (h : e.ok s x) (hb : bt t i ≠ 44) (hA : At t (i + 1) e.rd) (hz : i + 1 + e.rd.length < t.size) (hx : cX (bt t (i + 1 + e.rd.length : Nat)) = true) :
    (eleQ t (i + 1)).map (qT t) = if bt t i = 123 then [pcS t (i + 1) (i + 1 + e.rd.length) []] else [] := by
  have hxv := cX_vals hx
  unfold eleQ
  rw [show (((i + 1 : Nat) : Int) - 1) = (i : Int) by omega, if_neg hb, elE_at h hA (by omega) (.inr hx), if_neg (by omega)]
  split
  · simp only [List.map_cons, List.map_nil]
    rw [qT_cut (by omega) (by omega)]
    simp [pcS]
  · rfl
theorem TE.dig {e : (TE TF)} {x i : Nat} (h : e.ok s x) (hA : At t i e.rd) : cD (bt t i) = true := by
  cases e with
  | mk d fs =>
    simp only [TE.ok_mk] at h
    simp only [TE.rd_mk] at hA
    rw [hA.head]; simp [cD]; omega
theorem let_nd {c : Int} (h : cL c = true) : cN c = false ∧ c ≠ 91 ∧ cD c = false := by
  have hv : 97 ≤ c ∧ c ≤ 122 := by simpa [cL] using h
  exact ⟨by simp [cN]; omega, by omega, by simp [cD]; omega⟩
theorem cls_nd {c : Int} (h : cX c = true) : c ≠ 91 ∧ cN c = false ∧ cD c = false := by
  rcases cX_vals h with rfl | rfl | rfl | rfl <;> decide
theorem opn_nd {c : Int} (h : cO c = true) (h1 : c ≠ 91) : cN c = false ∧ cD c = false := by
  rcases cO_vals h with rfl | rfl | rfl | rfl
  · decide
  · exact absurd rfl h1
  · decide
  · decide
theorem range_front {α : Type} (n : Nat) (f : Nat → α) : (List.range (n + 1)).map f = f 0 :: (List.range n).map (fun k => f (k + 1)) := by
  rw [List.range_succ_eq_map, List.map_cons, List.map_map]; rfl
set_option maxHeartbeats 4000000 in
theorem pg_all : (∀ z, (fun (e : (TE TF)) => ∀ (x i : Nat), e.ok s x → At t i e.rd → i + e.rd.length ≤ t.size → List.Perm (pgT t (i + 1) (e.rd.length - 1)) (e.st.map fun e' => pcS t i (i + e.rd.length) e'.rd)) z) ∧ (∀ z, (fun (fs : TFs) => ∀ (l : List Nat) (i : Nat), (TFs.ok s fs) l → At t i (TFs.rd fs) → i + (TFs.rd fs).length ≤ t.size → List.Perm (pgT t i (TFs.rd fs).length) ((TFs.st fs).map fun fs' => pcS t i (i + (TFs.rd fs).length) (TFs.rd fs'))) z) ∧ (∀ z, (fun (f : TF) => ∀ (p i : Nat), f.ok s p → At t i f.rd → i + f.rd.length ≤ t.size → List.Perm (pgT t i f.rd.length) (f.st.map fun f' => pcS t i (i + f.rd.length) f'.rd)) z) ∧ (∀ z, (fun (es : TEs) => ∀ (x i : Nat) (c : Int), cX c = true → (TEs.ok s es) x → At t i ((TEs.rt es) ++ [c]) → i + (TEs.rt es).length < t.size → List.Perm (pgT t i (TEs.rt es).length) (((List.range (TEs.len es)).map fun k => pcS t i (i + (TEs.rt es).length) (TEs.rt (TEs.del es k))) ++ (TEs.st es).map fun es' => pcS t i (i + (TEs.rt es).length) (TEs.rt es'))) z) := by
  refine tree_ind ?_ ?_ ?_ ?_ ?_ ?_ ?_ ?_
  · intro d fs ihfs x i h hA hz
    simp only [TE.ok_mk] at h
    obtain ⟨hd, a, _, h2⟩ := h
    simp only [TE.rd_mk, TE.st_mk, List.length_cons, List.map_map] at hA hz ⊢
    refine (ihfs _ (i + 1) h2 hA.tail (by omega)).trans (List.Perm.of_eq (List.map_congr_left (fun fs' _ => ?_)))
    simp only [Function.comp, TE.rd_mk]
    have := pc_right (t := t) (j := i + 1 + (TFs.rd fs).length) (C := (TFs.rd fs')) (A := [48 + (d : Int)]) (At.cons hA.head (At.nil _))
    simp only [List.length_cons, List.length_nil, Nat.zero_add, List.cons_append, List.nil_append] at this
    rw [this]; congr 1; omega
  · intro l i h hA hz
    simp [TFs.rd_nil, TFs.rd_cons, TFs.st_nil, TFs.st_cons, pgT]
  · intro f fs ihf ihfs l i h hA hz
    simp only [TFs.ok_nil, TFs.ok_cons] at h
    obtain ⟨p, q, _, h1, h2⟩ := h
    simp only [TFs.rd_nil, TFs.rd_cons] at hA hz
    have hz' : i + (f.rd.length + (TFs.rd fs).length) ≤ t.size := by simpa using hz
    simp only [TFs.rd_nil, TFs.rd_cons, TFs.st_nil, TFs.st_cons, List.length_append, List.map_append, List.map_map]
    rw [pgT_add]
    refine List.Perm.append ((ihf p i h1 hA.left (by omega)).trans (List.Perm.of_eq ?_)) ((ihfs q (i + f.rd.length) h2 hA.right (by omega)).trans (List.Perm.of_eq ?_))
    · refine List.map_congr_left (fun f' _ => ?_)
      simp only [Function.comp, TFs.rd_nil, TFs.rd_cons]
      rw [pc_left hA hz]; simp
    · refine List.map_congr_left (fun fs' _ => ?_)
      simp only [Function.comp, TFs.rd_nil, TFs.rd_cons]
      rw [pc_right hA.left]; congr 1; omega
  · intro c p i h hA hz
    simp only [TF.ok_lt, TF.ok_nm, TF.ok_br] at h
    obtain ⟨h1, h2⟩ := h
    simp only [TF.rd_lt, TF.rd_nm, TF.rd_br, TF.st_lt, TF.st_nm, TF.st_br] at hA hz ⊢
    have hno := let_nd (c := c) (by rw [h2]; exact h1)
    have hb := hA.head
    show List.Perm (pgT t i 1) _
    rw [pgT_no (by rw [hb]; exact hno.2.1) (by rw [hb]; exact hno.1) (by rw [hb]; exact hno.2.2)]
    exact List.Perm.refl _
  · intro c e ihe p i h hA hz
    simp only [TF.ok_lt, TF.ok_nm, TF.ok_br] at h
    obtain ⟨h1, h2, h3⟩ := h
    have hcN : cN c = true := by rw [h2]; exact h1
    have hv : 65 ≤ c ∧ c ≤ 90 := by simpa [cN] using hcN
    simp only [TF.rd_lt, TF.rd_nm, TF.rd_br] at hA hz
    have hm := mt_nm h3 hA
    have hpos := TE.rd_pos e
    have hl : (c :: 40 :: (e.rd ++ [41])).length = 1 + (1 + (1 + (e.rd.length - 1) + 1)) := by simp; omega
    have h41 : bt t ((i + 1 + 1 + e.rd.length : Nat) : Int) = 41 := hA.tail.tail.right.head
    have h40 : bt t ((i + 1 : Nat) : Int) = 40 := hA.tail.head
    have hb := hA.head
    have hnam := namQ_nm hcN h3 hA hz
    have hlt : i + 1 + 1 + e.rd.length < t.size := bt_lt (by rw [h41]; decide)
    simp only [TF.rd_lt, TF.rd_nm, TF.rd_br, TF.st_lt, TF.st_nm, TF.st_br, List.map_append, List.map_map]
    rw [hl] at hz ⊢
    rw [hl] at hnam
    have hone : pgT t i 1 = (namQ t i).map (qT t) := by
      rw [pgT_one]
      unfold plQ
      rw [hb, if_neg (by omega), if_pos hcN, if_neg (by simp [cD]; omega)]; simp
    have hdg : pgT t (i + 1 + 1) 1 = [] := by
      rw [pgT_dig (TE.dig h3 hA.tail.tail.left), eleQ_one h3 (by omega) hA.tail.tail.left hlt (by rw [h41]; decide), if_neg (by rw [h40]; decide)]
    rw [pgT_add, pgT_add, pgT_add, pgT_add, hone, pgT_no (i := i + 1) (by rw [h40]; decide) (by rw [h40]; decide) (by rw [h40]; decide), hdg, show i + 1 + 1 + (1 + (e.rd.length - 1)) = i + 1 + 1 + e.rd.length by omega, pgT_no (i := i + 1 + 1 + e.rd.length) (by rw [h41]; decide) (by rw [h41]; decide) (by rw [h41]; decide)]
    simp only [List.nil_append, List.append_nil]
    refine List.Perm.append hnam ((ihe _ (i + 1 + 1) h3 hA.tail.tail.left (by omega)).trans (List.Perm.of_eq ?_))
    refine List.map_congr_left (fun e' _ => ?_)
    simp only [Function.comp, TF.rd_lt, TF.rd_nm, TF.rd_br]
    have hA3 : At t (i + 1 + 1) (e.rd ++ [41]) := hA.tail.tail
    rw [pc_left hA3 (by simp; omega)]
    have := pc_right (t := t) (j := i + 1 + 1 + (e.rd ++ [41]).length) (C := e'.rd ++ [41]) (A := [c, 40]) (At.cons hb (At.cons h40 (At.nil _)))
    simp only [List.length_cons, List.length_nil, Nat.zero_add, List.cons_append, List.nil_append] at this
    rw [show i + (1 + 1) = i + 1 + 1 by omega] at this
    rw [this]; congr 1; simp; omega
  · intro o es _ ihb p i h hA hz
    simp only [TF.ok_lt, TF.ok_nm, TF.ok_br] at h
    obtain ⟨h1, h2, h5, h3⟩ := h
    have ho : cO o = true := by rw [h2]; exact h1
    have hc0 : cC o ≠ 0 := by simpa [cO] using ho
    have hcx := cX_cC _ hc0
    have hcn := cls_nd hcx
    have hcxv := cX_vals hcx
    have hov := cO_vals ho
    simp only [TF.rd_lt, TF.rd_nm, TF.rd_br] at hA hz
    have hb := hA.head
    have hmt := mt_brk ho hcx (TEs.balr (t := t) es _ h3) hA
    have hcl : bt t ((i + 1 + (TEs.rd es).length : Nat) : Int) = cC o := hA.tail.right.head
    have hlt : i + 1 + (TEs.rd es).length < t.size := bt_lt (by rw [hcl]; exact hc0)
    have hen : enP t i = i + 2 + (TEs.rd es).length := by
      unfold enP en
      rw [if_pos (by omega), if_pos (by rw [hA.head]; exact ho), hmt]; omega
    have hop : pgT t i 1 = if o = 91 then (if 0 < (TEs.rd es).length then [seg t 0 (i + 1) ++ seg t (i + 1 + (TEs.rd es).length) t.size] else []) else [] := by
      by_cases q1 : o = 91
      · rw [if_pos q1, pgT_one]
        unfold plQ
        rw [hA.head, if_pos q1, if_neg (by rw [q1]; decide), if_neg (by rw [q1]; decide)]
        unfold optQ
        rw [hen]
        by_cases q2 : 0 < (TEs.rd es).length
        · rw [if_pos (by omega), if_pos q2]
          simp only [List.append_nil, List.map_cons, List.map_nil]
          rw [qT_cut (by omega) (by omega)]
          rw [show i + 2 + (TEs.rd es).length - 1 = i + 1 + (TEs.rd es).length by omega]
        · rw [if_neg (by omega), if_neg q2]; rfl
      · rw [if_neg q1, pgT_no (by rw [hA.head]; exact q1) (by rw [hA.head]; exact (opn_nd ho q1).1) (by rw [hA.head]; exact (opn_nd ho q1).2)]
    have hone : ∀ j C, pcS t (i + 1) j C = pcS t i j (o :: C) := fun j C => by
      have := pc_right (t := t) (j := j) (C := C) (A := [o]) (At.cons hA.head (At.nil _))
      simpa using this
    have hend : ∀ C, pcS t i (i + 1 + (TEs.rd es).length) C = pcS t i (i + (o :: ((TEs.rd es) ++ [cC o])).length) (C ++ [cC o]) := fun C => by
      unfold pcS
      have hcA : At t (i + 1 + (TEs.rd es).length) [cC o] := hA.tail.right
      rw [seg_rest hcA (by simp; omega), show i + 1 + (TEs.rd es).length + [cC o].length = i + (o :: ((TEs.rd es) ++ [cC o])).length by simp; omega]
      simp
    simp only [TF.rd_lt, TF.rd_nm, TF.rd_br, TF.st_lt, TF.st_nm, TF.st_br, List.map_append, List.map_map]
    cases es with
    | nil =>
      simp only [TEs.rd_nil, TEs.rd_cons, List.nil_append, List.length_nil, Nat.add_zero, List.length_cons] at hA hop hcl hlt ⊢
      have hown : ownN o 0 = 0 := by have := ownN_le o 0; omega
      simp only [TEs.len, TEs.st_nil, TEs.st_cons]
      rw [show (0 + 1 + 1 : Nat) = 1 + 1 from rfl, pgT_add, hop, pgT_no (by rw [hcl]; exact hcn.1) (by rw [hcl]; exact hcn.2.1) (by rw [hcl]; exact hcn.2.2), hown]
      simp
    | cons e es =>
      simp only [TEs.ok_nil, TEs.ok_cons] at h3
      have hpos := TE.rd_pos e
      have hrd : (TEs.rd (e :: es)) = e.rd ++ (TEs.rt es) := by simp only [TEs.rd_nil, TEs.rd_cons]
      have hrl : (TEs.rd (e :: es)).length = e.rd.length + (TEs.rt es).length := by rw [hrd]; simp
      have hA2 := hA.tail.left
      have hA4 : At t (i + 1 + e.rd.length) ((TEs.rt es) ++ [cC o]) := by
        have := hA.tail
        rw [hrd, List.append_assoc] at this
        exact this.right
      rw [hrd] at hA2
      have hL : (o :: ((TEs.rd (e :: es)) ++ [cC o])).length = 1 + (1 + (e.rd.length - 1) + ((TEs.rt es).length + 1)) := by simp [hrl]; omega
      have hz2 : i + 1 + (e.rd ++ (TEs.rt es)).length ≤ t.size := by simp; omega
      have hB := (ihb _ _ rfl).2 _ (i + 1 + e.rd.length) (cC o) hcx h3.2 hA4 (by omega)
      have hT := (ihb _ _ rfl).1 _ (i + 1) h3.1 hA2.left (by omega)
      have hclose : pgT t (i + 1 + e.rd.length + (TEs.rt es).length) 1 = [] := by
        rw [show i + 1 + e.rd.length + (TEs.rt es).length = i + 1 + (TEs.rd (e :: es)).length by omega]
        exact pgT_no (by rw [hcl]; exact hcn.1) (by rw [hcl]; exact hcn.2.1) (by rw [hcl]; exact hcn.2.2)
      have hsplit : pgT t i (o :: ((TEs.rd (e :: es)) ++ [cC o])).length = pgT t i 1 ++ (pgT t (i + 1) 1 ++ (pgT t (i + 1 + 1) (e.rd.length - 1) ++ pgT t (i + 1 + e.rd.length) (TEs.rt es).length)) := by
        rw [hL, pgT_add, pgT_add, pgT_add, pgT_add, show i + 1 + (1 + (e.rd.length - 1)) = i + 1 + e.rd.length by omega, hclose]
        simp
      have hstE : (e.st.map fun e' => pcS t (i + 1) (i + 1 + e.rd.length) e'.rd) = e.st.map fun e' => pcS t i (i + (o :: ((TEs.rd (e :: es)) ++ [cC o])).length) (o :: ((TEs.rd (e' :: es)) ++ [cC o])) := by
        refine List.map_congr_left (fun e' _ => ?_)
        rw [pc_left hA2 hz2, hone, show i + 1 + (e.rd ++ (TEs.rt es)).length = i + 1 + (TEs.rd (e :: es)).length by rw [hrd], hend]
        simp only [TEs.rd_nil, TEs.rd_cons, List.cons_append]
      have hstS : ((TEs.st es).map fun es' => pcS t (i + 1 + e.rd.length) (i + 1 + e.rd.length + (TEs.rt es).length) (TEs.rt es')) = (TEs.st es).map fun es' => pcS t i (i + (o :: ((TEs.rd (e :: es)) ++ [cC o])).length) (o :: ((TEs.rd (e :: es')) ++ [cC o])) := by
        refine List.map_congr_left (fun es' _ => ?_)
        rw [pc_right hA2.left, hone, show i + 1 + e.rd.length + (TEs.rt es).length = i + 1 + (TEs.rd (e :: es)).length by omega, hend]
        simp only [TEs.rd_nil, TEs.rd_cons, List.cons_append]
      have hdlS : ((List.range (TEs.len es)).map fun k => pcS t (i + 1 + e.rd.length) (i + 1 + e.rd.length + (TEs.rt es).length) (TEs.rt (TEs.del es k))) = (List.range (TEs.len es)).map fun k => pcS t i (i + (o :: ((TEs.rd (e :: es)) ++ [cC o])).length) (o :: ((TEs.rd (TEs.del (e :: es) (k + 1))) ++ [cC o])) := by
        refine List.map_congr_left (fun k _ => ?_)
        rw [pc_right hA2.left, hone, show i + 1 + e.rd.length + (TEs.rt es).length = i + 1 + (TEs.rd (e :: es)).length by omega, hend]
        simp only [TEs.del, TEs.rd_nil, TEs.rd_cons, List.cons_append]
      rw [hdlS, hstS] at hB
      rw [hstE] at hT
      have hbo : bt t i ≠ 44 := by rw [hA.head]; omega
      have hdd := TE.dig h3.1 hA2.left
      rw [hsplit]
      simp only [TEs.len, TEs.st_nil, TEs.st_cons, List.map_append, List.map_map, Function.comp_def]
      cases es with
      | nil =>
        simp only [TEs.len, TEs.rd_nil, TEs.rd_cons, TEs.rt_nil, TEs.rt_cons, List.append_nil, List.length_nil, Nat.add_zero, TEs.st_nil, TEs.st_cons, List.map_nil, List.range_zero, TEs.del] at hB hT hA2 hA4 hcl hrd hrl hlt hop hend hL ⊢
        have hB0 := hB.eq_nil
        simp only [TF.rd_lt, TF.rd_nm, TF.rd_br, TEs.rd_nil, TEs.rd_cons, TEs.rt_nil, TEs.rt_cons, List.append_nil]
        rw [hB0, List.append_nil, hop, pgT_dig hdd, eleQ_one h3.1 hbo hA2 hlt (by rw [hcl]; exact hcx), hA.head]
        rcases hov with q | q | q | q
        · rw [q] at hT ⊢
          rw [if_neg (by decide), if_neg (by decide), show ownN 40 (0 + 1) = 0 from rfl]
          simpa using hT
        · rw [q] at hT hend ⊢
          rw [if_pos rfl, if_pos (by omega), if_neg (by decide), show ownN 91 (0 + 1) = 1 from rfl]
          have : seg t 0 (i + 1) ++ seg t (i + 1 + e.rd.length) t.size = pcS t i (i + (91 :: (e.rd ++ [cC 91])).length) (91 :: ([] ++ [cC 91])) := by
            have h1 := hend [91]
            have h2 := hone (i + 1 + e.rd.length) []
            rw [q] at h2
            rw [h1] at h2
            rw [show 91 :: ([] ++ [cC 91]) = [91] ++ [cC 91] from rfl, ← h2]
            simp [pcS]
          rw [this]
          simp only [List.range_one, List.map_cons, List.map_nil, TEs.del, TEs.rd_nil, TEs.rd_cons, List.nil_append, List.singleton_append]
          exact List.Perm.cons _ hT
        · rw [q] at hT hend ⊢
          rw [if_neg (by decide), if_pos rfl, show ownN 123 (0 + 1) = 1 from rfl]
          have : pcS t (i + 1) (i + 1 + e.rd.length) [] = pcS t i (i + (123 :: (e.rd ++ [cC 123])).length) (123 :: ([] ++ [cC 123])) := by
            have h1 := hend [123]
            have h2 := hone (i + 1 + e.rd.length) []
            rw [q] at h2
            rw [h2, h1]; rfl
          rw [this]
          simp only [List.range_one, List.map_cons, List.map_nil, TEs.del, TEs.rd_nil, TEs.rd_cons, List.nil_append, List.singleton_append]
          exact List.Perm.cons _ hT
        · rw [q] at hT ⊢
          rw [if_neg (by decide), if_neg (by decide), show ownN 60 (0 + 1) = 0 from rfl]
          simpa using hT
      | cons e2 es =>
        have hlen : (TEs.len (e :: e2 :: es)) = (TEs.len es) + 2 := by simp [TEs.len]
        have hnot : o ≠ 91 ∧ o ≠ 40 := by
          obtain ⟨o1, o2, o3⟩ := h5
          refine ⟨fun q => ?_, fun q => ?_⟩
          · have := o2 q; omega
          · have := o1 q; omega
        have hown : ownN o ((TEs.len (e2 :: es)) + 1) = (TEs.len (e2 :: es)) + 1 := by
          unfold ownN
          rw [if_neg hnot.1]
          rcases hov with q | q | q | q
          · exact absurd q hnot.2
          · exact absurd q hnot.1
          · rw [if_pos q]
          · rw [if_neg (by rw [q]; decide), if_pos q, if_pos (by simp [TEs.len])]
        have h44 : bt t (i + 1 + e.rd.length : Nat) = 44 := by
          simp only [TEs.rt_nil, TEs.rt_cons] at hA4
          exact hA4.head
        have hrt : (TEs.rt (e2 :: es)) = 44 :: (TEs.rd (e2 :: es)) := by simp only [TEs.rt_nil, TEs.rt_cons, TEs.rd_nil, TEs.rd_cons]
        have hrtl : (TEs.rt (e2 :: es)).length = (TEs.rd (e2 :: es)).length + 1 := by rw [hrt]; simp
        rw [hop, if_neg hnot.1, pgT_dig hdd, eleQ_fst h3.1 hbo hA2.left (by omega) h44, hown, range_front]
        have hfst : pcS t (i + 1) (i + 1 + e.rd.length + 1) [] = pcS t i (i + (o :: ((TEs.rd (e :: e2 :: es)) ++ [cC o])).length) (o :: ((TEs.rd (TEs.del (e :: e2 :: es) 0)) ++ [cC o])) := by
          simp only [TEs.del]
          have hA5 : At t (i + 1 + e.rd.length + 1) ((TEs.rd (e2 :: es)) ++ [cC o]) := by
            rw [hrt] at hA4
            exact hA4.tail
          rw [hone]
          unfold pcS
          rw [seg_rest hA5 (by simp; omega), show i + 1 + e.rd.length + 1 + ((TEs.rd (e2 :: es)) ++ [cC o]).length = i + (o :: ((TEs.rd (e :: e2 :: es)) ++ [cC o])).length by simp only [List.length_append, List.length_cons, List.length_nil]; omega]
          simp
        rw [hfst]
        simp only [TF.rd_lt, TF.rd_nm, TF.rd_br]
        refine List.Perm.cons _ ?_
        exact (List.Perm.append hT hB).trans (perm_mid _ _ _)
  · intro x i c hc h hA hz
    simp [TEs.rt_nil, TEs.rt_cons, TEs.st_nil, TEs.st_cons, TEs.len, pgT]
  · intro e es ihe ihes x i c hc h hA hz
    simp only [TEs.ok_nil, TEs.ok_cons] at h
    have hpos := TE.rd_pos e
    have hrt : (TEs.rt (e :: es)) = 44 :: (e.rd ++ (TEs.rt es)) := by simp only [TEs.rt_nil, TEs.rt_cons]
    rw [hrt] at hA hz
    have hl : (44 :: (e.rd ++ (TEs.rt es))).length = 1 + (1 + (e.rd.length - 1) + (TEs.rt es).length) := by simp; omega
    have hb := hA.head
    have hA1 : At t (i + 1) (e.rd ++ ((TEs.rt es) ++ [c])) := by
      have := hA.tail
      rwa [← List.append_assoc]
    have hA2 : At t (i + 1) (e.rd ++ (TEs.rt es)) := by
      have := hA.left
      exact this.tail
    have hz1 : i + 1 + (e.rd.length + (TEs.rt es).length) < t.size := by rw [hl] at hz; omega
    have hz2 : i + 1 + (e.rd ++ (TEs.rt es)).length ≤ t.size := by simp; omega
    have hx : bt t (i + 1 + e.rd.length : Nat) = 44 ∨ cX (bt t (i + 1 + e.rd.length : Nat)) = true := by
      have hA3 := hA1.right
      cases es with
      | nil =>
        simp only [TEs.rt_nil, TEs.rt_cons, List.nil_append] at hA3
        right; rw [hA3.head]; exact hc
      | cons e2 es =>
        simp only [TEs.rt_nil, TEs.rt_cons] at hA3
        left; exact hA3.head
    have hB := ihes _ (i + 1 + e.rd.length) c hc h.2 hA1.right (by omega)
    have hT := ihe _ (i + 1) h.1 hA2.left (by omega)
    have hone : ∀ j C, pcS t (i + 1) j C = pcS t i j (44 :: C) := fun j C => by
      have := pc_right (t := t) (j := j) (C := C) (A := [44]) (At.cons hb (At.nil _))
      simpa using this
    rw [hrt, hl, pgT_add, pgT_add, pgT_add, pgT_no (by rw [hb]; decide) (by rw [hb]; decide) (by rw [hb]; decide), pgT_dig (TE.dig h.1 hA2.left), eleQ_com h.1 hb hA2.left (by omega) hx, show i + 1 + (1 + (e.rd.length - 1)) = i + 1 + e.rd.length by omega]
    simp only [TEs.len, TEs.st_nil, TEs.st_cons, List.map_append, List.map_map, Function.comp_def, List.nil_append]
    rw [range_front]
    have hfst : pcS t i (i + 1 + e.rd.length) [] = pcS t i (i + (1 + (1 + (e.rd.length - 1) + (TEs.rt es).length))) (TEs.rt (TEs.del (e :: es) 0)) := by
      simp only [TEs.del]
      unfold pcS
      rw [seg_rest hA2.right (by omega), show i + 1 + e.rd.length + (TEs.rt es).length = i + (1 + (1 + (e.rd.length - 1) + (TEs.rt es).length)) by omega]
      simp
    rw [hfst]
    have hstE : (e.st.map fun e' => pcS t (i + 1) (i + 1 + e.rd.length) e'.rd) = e.st.map fun e' => pcS t i (i + (1 + (1 + (e.rd.length - 1) + (TEs.rt es).length))) (TEs.rt (e' :: es)) := by
      refine List.map_congr_left (fun e' _ => ?_)
      rw [pc_left hA2 hz2, hone]
      simp only [TEs.rt_nil, TEs.rt_cons]; congr 1; simp; omega
    have hstS : ((TEs.st es).map fun es' => pcS t (i + 1 + e.rd.length) (i + 1 + e.rd.length + (TEs.rt es).length) (TEs.rt es')) = (TEs.st es).map fun es' => pcS t i (i + (1 + (1 + (e.rd.length - 1) + (TEs.rt es).length))) (TEs.rt (e :: es')) := by
      refine List.map_congr_left (fun es' _ => ?_)
      rw [pc_right hA2.left, hone]
      simp only [TEs.rt_nil, TEs.rt_cons]; congr 1; omega
    have hdlS : ((List.range (TEs.len es)).map fun k => pcS t (i + 1 + e.rd.length) (i + 1 + e.rd.length + (TEs.rt es).length) (TEs.rt (TEs.del es k))) = (List.range (TEs.len es)).map fun k => pcS t i (i + (1 + (1 + (e.rd.length - 1) + (TEs.rt es).length))) (TEs.rt (TEs.del (e :: es) (k + 1))) := by
      refine List.map_congr_left (fun k _ => ?_)
      rw [pc_right hA2.left, hone]
      simp only [TEs.del, TEs.rt_nil, TEs.rt_cons]; congr 1; omega
    rw [hdlS, hstS] at hB
    rw [hstE] at hT
    simp only [List.cons_append]
    refine List.Perm.cons _ ?_
    exact (List.Perm.append hT hB).trans (perm_mid _ _ _)
theorem TE.pg : ∀ (e : (TE TF)) (x i : Nat), e.ok s x → At t i e.rd → i + e.rd.length ≤ t.size → List.Perm (pgT t (i + 1) (e.rd.length - 1)) (e.st.map fun e' => pcS t i (i + e.rd.length) e'.rd) := pg_all.1
theorem TFs.pg : ∀ (fs : TFs) (l : List Nat) (i : Nat), (TFs.ok s fs) l → At t i (TFs.rd fs) → i + (TFs.rd fs).length ≤ t.size → List.Perm (pgT t i (TFs.rd fs).length) ((TFs.st fs).map fun fs' => pcS t i (i + (TFs.rd fs).length) (TFs.rd fs')) := pg_all.2.1
theorem TF.pg : ∀ (f : TF) (p i : Nat), f.ok s p → At t i f.rd → i + f.rd.length ≤ t.size → List.Perm (pgT t i f.rd.length) (f.st.map fun f' => pcS t i (i + f.rd.length) f'.rd) := pg_all.2.2.1
theorem TEs.pg : ∀ (es : TEs) (x i : Nat) (c : Int), cX c = true → (TEs.ok s es) x → At t i ((TEs.rt es) ++ [c]) → i + (TEs.rt es).length < t.size → List.Perm (pgT t i (TEs.rt es).length) (((List.range (TEs.len es)).map fun k => pcS t i (i + (TEs.rt es).length) (TEs.rt (TEs.del es k))) ++ (TEs.st es).map fun es' => pcS t i (i + (TEs.rt es).length) (TEs.rt es')) := pg_all.2.2.2
/-- the texts of the steps that the program finds -/
def prgT (t : ByteArray) : List ByteArray := (allQ t).map fun q => strOfNums (qT t q)
/-- they are those of the steps -/
theorem prg_perm {f : TF} (h : TreeOf s t f) : List.Perm (prgT t) (stpT t) := by
  have h1 := TF.pg f 0 0 h.ok h.at_ (by have := h.sz; omega)
  rw [← h.sz] at h1
  unfold prgT stpT
  rw [stS_all h]
  have e1 : ((allQ t).map fun q => strOfNums (qT t q)) = (pgT t 0 t.size).map strOfNums := by
    unfold allQ pgT
    rw [List.map_flatMap, List.map_flatMap, List.range_eq_range']
    congr 1
    funext j
    rw [List.map_map]; rfl
  rw [e1]
  refine List.Perm.map _ (h1.trans (List.Perm.of_eq (List.map_congr_left (fun f' _ => ?_))))
  simp [pcS, seg_self]
end
end Go.Proofs.Ytnfaiaoipeholaa
/- Where the brackets of a tree end, by a row of the open ones. No Go here. -/
namespace Go.Proofs.Ytnfaiaoipeholaa
set_option linter.unusedSimpArgs false
set_option linter.unusedVariables false
/-- one byte: where parts end, which brackets are open -/
def esT (t : ByteArray) (i : Nat) (S : List Int × List Nat) : List Int × List Nat :=
  if cO (bt t i) = true then (S.1.set i ((i : Int) + 1), S.2 ++ [i])
  else if cX (bt t i) = true ∧ S.2 ≠ [] then ((S.1.set i ((i : Int) + 1)).set (S.2.getLastD 0) ((i : Int) + 1), S.2.dropLast)
  else (S.1.set i ((i : Int) + 1), S.2)
def esF (t : ByteArray) : Nat → Nat → List Int × List Nat → List Int × List Nat
  | 0, _, S => S
  | n + 1, i, S => esF t n (i + 1) (esT t i S)
theorem esF_add (t : ByteArray) : ∀ n m i S, esF t (n + m) i S = esF t m (i + n) (esF t n i S)
  | 0, m, i, S => by simp [esF]
  | n + 1, m, i, S => by
    rw [show n + 1 + m = (n + m) + 1 by omega]
    simp only [esF]
    rw [esF_add t n m (i + 1), show i + 1 + n = i + (n + 1) by omega]
theorem esF_succ (t : ByteArray) (n : Nat) (S : List Int × List Nat) : esF t (n + 1) 0 S = esT t n (esF t n 0 S) := by
  rw [esF_add]; simp [esF]
theorem esT_len (t : ByteArray) (i : Nat) (S : List Int × List Nat) : (esT t i S).1.length = S.1.length := by
  unfold esT
  split
  · simp
  split
  · simp
  · simp
theorem esF_len (t : ByteArray) : ∀ n i S, (esF t n i S).1.length = S.1.length
  | 0, _, _ => rfl
  | n + 1, i, S => by simp only [esF]; rw [esF_len t n, esT_len]
/-- the open ones lie ahead -/
theorem esF_open (t : ByteArray) : ∀ n, (∀ j ∈ (esF t n 0 (List.replicate t.size 0, [])).2, j < n) ∧ (esF t n 0 (List.replicate t.size 0, [])).2.length ≤ n
  | 0 => ⟨fun j hj => by simp [esF] at hj, by simp [esF]⟩
  | n + 1 => by
    obtain ⟨h1, h2⟩ := esF_open t n
    rw [esF_succ]
    generalize esF t n 0 (List.replicate t.size 0, []) = S at h1 h2
    unfold esT
    split
    · simp only
      refine ⟨fun j hj => ?_, by simp; omega⟩
      rcases List.mem_append.1 hj with h | h
      · have := h1 j h; omega
      · simp at h; omega
    split
    · simp only
      refine ⟨fun j hj => ?_, by rw [List.length_dropLast]; omega⟩
      have := h1 j (List.dropLast_subset _ hj)
      omega
    · exact ⟨fun j hj => by have := h1 j hj; omega, by simp only; omega⟩
section
variable {s t : ByteArray}
/-- over these bytes the open ones come back, and the ends are right -/
def BalE (t : ByteArray) (R : List Int) : Prop := ∀ i L O, At t i R → i + R.length ≤ L.length → ∃ L', esF t R.length i (L, O) = (L', O) ∧ L'.length = L.length ∧ (∀ j, (j < i ∨ i + R.length ≤ j) → L'[j]? = L[j]?) ∧ ∀ j, i ≤ j → j < i + R.length → L'[j]? = some ((en t j : Nat) : Int)
theorem BalE.nil : BalE t [] := fun i L O _ _ => ⟨L, rfl, rfl, fun _ _ => rfl, fun j h1 h2 => by simp at h2; omega⟩
theorem BalE.app {A B : List Int} (h : BalE t A) (g : BalE t B) : BalE t (A ++ B) := fun i L O hA hz => by
  simp only [List.length_append] at hz ⊢
  obtain ⟨L1, a1, a2, a3, a4⟩ := h i L O hA.left (by omega)
  obtain ⟨L2, b1, b2, b3, b4⟩ := g (i + A.length) L1 O hA.right (by omega)
  refine ⟨L2, by rw [esF_add, a1, b1], by omega, fun j hj => ?_, fun j h1 h2 => ?_⟩
  · rw [b3 j (by omega), a3 j (by omega)]
  · by_cases e : j < i + A.length
    · rw [b3 j (by omega), a4 j h1 e]
    · exact b4 j (by omega) (by omega)
theorem BalE.one {c : Int} (h1 : cO c = false) (h2 : cX c = false) : BalE t [c] := fun i L O hA hz => by
  simp only [List.length_cons, List.length_nil] at hz ⊢
  have hb := hA.head
  refine ⟨L.set i ((i : Int) + 1), ?_, by simp, fun j hj => ?_, fun j g1 g2 => ?_⟩
  · simp only [esF]
    unfold esT
    rw [hb, if_neg (by simp [h1]), if_neg (by simp [h2])]
  · rw [List.getElem?_set_ne (by omega)]
  · have e : j = i := by omega
    subst e
    rw [List.getElem?_set_self (by omega)]
    unfold en
    rw [if_neg (by rw [hb]; simp [h1])]; rfl
theorem BalE.plain {c : Int} {L : List Int} (h1 : cO c = false) (h2 : cX c = false) (g : BalE t L) : BalE t (c :: L) := BalE.app (BalE.one h1 h2) g
theorem BalE.brk {o c : Int} {R : List Int} (ho : cO o = true) (hc : cX c = true) (gb : Bal t R) (g : BalE t R) : BalE t (o :: (R ++ [c])) := fun i L O hA hz => by
  simp only [List.length_cons, List.length_append, List.length_nil] at hz ⊢
  have hb := hA.head
  have hA2 := hA.tail
  have hcl : bt t ((i + 1 + R.length : Nat) : Int) = c := hA2.right.head
  have hco : cO c = false := (close_not hc).2.2.1
  have hm := mt_brk ho hc gb hA
  obtain ⟨L1, a1, a2, a3, a4⟩ := g (i + 1) (L.set i ((i : Int) + 1)) (O ++ [i]) hA2.left (by simp; omega)
  have a2' : L1.length = L.length := by rw [a2]; simp
  refine ⟨(L1.set (i + 1 + R.length) (((i + 1 + R.length : Nat) : Int) + 1)).set i (((i + 1 + R.length : Nat) : Int) + 1), ?_, by simp; omega, fun j hj => ?_, fun j g1 g2 => ?_⟩
  · rw [show R.length + (0 + 1) + 1 = 1 + (R.length + 1) by omega, esF_add, esF_add]
    have e0 : esF t 1 i (L, O) = (L.set i ((i : Int) + 1), O ++ [i]) := by
      simp only [esF]
      unfold esT
      rw [hb, if_pos ho]
    rw [e0, a1]
    simp only [esF]
    unfold esT
    rw [hcl, if_neg (by simp [hco]), if_pos ⟨hc, by simp⟩]
    simp
  · rw [List.getElem?_set_ne (by omega), List.getElem?_set_ne (by omega), a3 j (by omega), List.getElem?_set_ne (by omega)]
  · by_cases e : j = i
    · subst e
      rw [List.getElem?_set_self (by simp; omega)]
      unfold en
      rw [if_pos (by rw [hb]; exact ho), hm]; rfl
    · rw [List.getElem?_set_ne (by omega)]
      by_cases e2 : j = i + 1 + R.length
      · subst e2
        rw [List.getElem?_set_self (by omega)]
        unfold en
        rw [if_neg (by rw [hcl]; simp [hco])]; rfl
      · rw [List.getElem?_set_ne (by omega)]
        exact a4 j (by omega) (by omega)
theorem balE_all : (∀ z, (fun (e : (TE TF)) => ∀ (x : Nat), e.ok s x → BalE t e.rd) z) ∧ (∀ z, (fun (fs : TFs) => ∀ (l : List Nat), (TFs.ok s fs) l → BalE t (TFs.rd fs)) z) ∧ (∀ z, (fun (f : TF) => ∀ (p : Nat), f.ok s p → BalE t f.rd) z) ∧ (∀ z, (fun (es : TEs) => ∀ (x : Nat), (TEs.ok s es) x → BalE t (TEs.rt es)) z) := by
  refine tree_ind ?_ ?_ ?_ ?_ ?_ ?_ ?_ ?_
  · intro d fs ihfs x h
    simp only [TE.ok_mk] at h
    obtain ⟨hd, a, _, h2⟩ := h
    simp only [TE.rd_mk]
    have hp := pl_dig hd
    exact BalE.plain hp.2.1 hp.2.2.1 (ihfs _ h2)
  · intro l h
    simp only [TFs.rd_nil, TFs.rd_cons]; exact BalE.nil
  · intro f fs ihf ihfs l h
    simp only [TFs.ok_nil, TFs.ok_cons] at h
    obtain ⟨p, q, _, h1, h2⟩ := h
    simp only [TFs.rd_nil, TFs.rd_cons]
    exact (ihf p h1).app (ihfs q h2)
  · intro c p h
    simp only [TF.ok_lt, TF.ok_nm, TF.ok_br] at h
    obtain ⟨h1, h2⟩ := h
    simp only [TF.rd_lt, TF.rd_nm, TF.rd_br]
    have hp := pl_let (c := c) (by rw [h2]; exact h1)
    exact BalE.plain hp.2.1 hp.2.2.1 BalE.nil
  · intro c e ihe p h
    simp only [TF.ok_lt, TF.ok_nm, TF.ok_br] at h
    obtain ⟨h1, h2, h3⟩ := h
    simp only [TF.rd_lt, TF.rd_nm, TF.rd_br]
    have hp := pl_nam (c := c) (by rw [h2]; exact h1)
    exact BalE.plain hp.2.1 hp.2.2.1 (BalE.brk (by decide) (by decide) (TE.bal e _ h3) (ihe _ h3))
  · intro o es _ ihb p h
    simp only [TF.ok_lt, TF.ok_nm, TF.ok_br] at h
    obtain ⟨h1, h2, _, h3⟩ := h
    have hc0 : cC o ≠ 0 := by rw [h2]; simpa [cO] using h1
    simp only [TF.rd_lt, TF.rd_nm, TF.rd_br]
    refine BalE.brk (by rw [h2]; exact h1) (cX_cC _ hc0) (TEs.balr es _ h3) ?_
    cases es with
    | nil => simp only [TEs.rd_nil, TEs.rd_cons]; exact BalE.nil
    | cons e es =>
      simp only [TEs.ok_nil, TEs.ok_cons] at h3
      simp only [TEs.rd_nil, TEs.rd_cons]
      exact ((ihb _ _ rfl).1 _ h3.1).app ((ihb _ _ rfl).2 _ h3.2)
  · intro x h
    simp only [TEs.rt_nil, TEs.rt_cons]; exact BalE.nil
  · intro e es ihe ihes x h
    simp only [TEs.ok_nil, TEs.ok_cons] at h
    simp only [TEs.rt_nil, TEs.rt_cons]
    exact BalE.plain pl_com.1 pl_com.2.1 ((ihe _ h.1).app (ihes _ h.2))
theorem TE.balE : ∀ (e : (TE TF)) (x : Nat), e.ok s x → BalE t e.rd := balE_all.1
theorem TFs.balE : ∀ (fs : TFs) (l : List Nat), (TFs.ok s fs) l → BalE t (TFs.rd fs) := balE_all.2.1
theorem TF.balE : ∀ (f : TF) (p : Nat), f.ok s p → BalE t f.rd := balE_all.2.2.1
theorem TEs.balE : ∀ (es : TEs) (x : Nat), (TEs.ok s es) x → BalE t (TEs.rt es) := balE_all.2.2.2
/-- the ends of a tree's parts -/
def ensL (t : ByteArray) : List Int := (esF t t.size 0 (List.replicate t.size 0, [])).1
theorem ensL_len (t : ByteArray) : (ensL t).length = t.size := by unfold ensL; rw [esF_len]; simp
theorem ensL_get {f : TF} (h : TreeOf s t f) {j : Nat} (hj : j < t.size) : (ensL t)[j]? = some ((en t j : Nat) : Int) := by
  obtain ⟨L', a1, a2, a3, a4⟩ := TF.balE f 0 h.ok 0 (List.replicate t.size 0) [] h.at_ (by have := h.sz; simp; omega)
  unfold ensL
  rw [h.sz] at a1 hj ⊢
  rw [a1]
  exact a4 j (Nat.zero_le _) (by omega)
/-- every place's part ends behind it, within the text -/
theorem en_bd {j : Nat} (h : j < t.size) : j < en t j ∧ en t j ≤ t.size + 1 := by
  have := mt_bd (t := t) (j := j) (by omega)
  unfold en
  split <;> omega
end
end Go.Proofs.Ytnfaiaoipeholaa
/- The way that the program goes. No Go here. -/
namespace Go.Proofs.Ytnfaiaoipeholaa
/-- the text of a step -/
def qB (t : ByteArray) (q : Qd) : ByteArray := strOfNums (qT t q)
/-- the first step that changes nothing ahead of a place -/
def ffN (Q : List Qd) (p : Nat) : Nat := (Q.takeWhile fun q => decide (q.1 < p)).length
/-- the step that is asked as the k-th -/
def qK (Q : List Qd) (f k : Nat) : Qd := Q.getD ((f + k) % Q.length) (0, 0, 0, 0)
/-- one step of the way: why it ends (0: it does not), the step, how often it was asked -/
def wkF (c t : ByteArray) (b : Nat) (Q : List Qd) (f : Nat) : Nat → Nat → Nat → Nat × Qd × Nat
  | 0, _, a => (1, (0, 0, 0, 0), a)
  | m + 1, k, a => if b ≤ a then (2, (0, 0, 0, 0), a) else if hld c (wd (qB t (qK Q f k))) = true then (0, qK Q f k, a + 1) else wkF c t b Q f m (k + 1) (a + 1)
def wk (c t : ByteArray) (b p a : Nat) : Nat × Qd × Nat := wkF c t b (allQ t) (ffN (allQ t) p) (allQ t).length 0 a
/-- the way: the further trees, how often it was asked, why it ends -/
def gw (c : ByteArray) (b : Nat) : Nat → ByteArray → Nat → Nat → List ByteArray × Nat × Nat
  | 0, _, _, a => ([], a, 0)
  | m + 1, t, p, a => if (wk c t b p a).1 = 0 then (qB t (wk c t b p a).2.1 :: (gw c b m (qB t (wk c t b p a).2.1) (wk c t b p a).2.1.1 (wk c t b p a).2.2).1, (gw c b m (qB t (wk c t b p a).2.1) (wk c t b p a).2.1.1 (wk c t b p a).2.2).2)
    else ([], (wk c t b p a).2.2, (wk c t b p a).1)
/-- what Reduce answers -/
def rdc (s t c : ByteArray) (b : Int) : ByteArray × Nat × Nat × Int :=
  if rfs s t c b ≠ 0 then (ByteArray.empty, 0, 0, rfs s t c b)
  else (strOfNums (wayL (t :: (gw c b.toNat (t.size + 1) t 0 0).1)), (gw c b.toNat (t.size + 1) t 0 0).2.1, (gw c b.toNat (t.size + 1) t 0 0).2.2, 0)
section
variable {s t c : ByteArray}
theorem ffN_le (Q : List Qd) (p : Nat) : ffN Q p ≤ Q.length := by
  unfold ffN
  exact (List.takeWhile_sublist _).length_le
theorem qK_mem {Q : List Qd} {f k : Nat} (h : 0 < Q.length) : qK Q f k ∈ Q := by
  have hm : (f + k) % Q.length < Q.length := Nat.mod_lt _ h
  unfold qK
  rw [List.getD_eq_getElem?_getD, List.getElem?_eq_getElem hm]
  simp
/-- every step is asked -/
theorem qK_all {Q : List Qd} {f : Nat} {q : Qd} (h : q ∈ Q) : ∃ k, k < Q.length ∧ qK Q f k = q := by
  obtain ⟨n, hn, e⟩ := List.getElem_of_mem h
  have hpos : 0 < Q.length := by omega
  refine ⟨(n + (Q.length - f % Q.length)) % Q.length, Nat.mod_lt _ hpos, ?_⟩
  have hf : f % Q.length < Q.length := Nat.mod_lt _ hpos
  have e2 : (f + (n + (Q.length - f % Q.length)) % Q.length) % Q.length = n := by
    rw [Nat.add_mod_mod, ← Nat.mod_add_mod, show f % Q.length + (n + (Q.length - f % Q.length)) = n + Q.length by omega, Nat.add_mod_right, Nat.mod_eq_of_lt hn]
  unfold qK
  rw [e2, List.getD_eq_getElem?_getD, List.getElem?_eq_getElem hn]
  simpa using e
theorem wkF_ok {b f : Nat} {Q : List Qd} : ∀ m k a, k + m = Q.length → a ≤ b →
    (wkF c t b Q f m k a).2.2 ≤ b ∧ a ≤ (wkF c t b Q f m k a).2.2 ∧ (wkF c t b Q f m k a).2.2 ≤ a + m ∧ (wkF c t b Q f m k a).1 ≤ 2 ∧
    ((wkF c t b Q f m k a).1 = 0 → (wkF c t b Q f m k a).2.1 ∈ Q ∧ hld c (wd (qB t (wkF c t b Q f m k a).2.1)) = true) ∧
    ((wkF c t b Q f m k a).1 = 1 → ∀ j, k ≤ j → j < Q.length → hld c (wd (qB t (qK Q f j))) = false) ∧
    ((wkF c t b Q f m k a).1 = 2 → (wkF c t b Q f m k a).2.2 = b ∧ 0 < Q.length)
  | 0, k, a, h, ha => by
    simp only [wkF]
    exact ⟨ha, Nat.le_refl _, Nat.le_refl _, by omega, by omega, fun _ j h1 h2 => by omega, by omega⟩
  | m + 1, k, a, h, ha => by
    unfold wkF
    split
    · simp only
      exact ⟨ha, Nat.le_refl _, by omega, by omega, by omega, by omega, fun _ => by omega⟩
    rename_i hb
    split
    · rename_i hh
      simp only
      exact ⟨by omega, by omega, by omega, by omega, fun _ => ⟨qK_mem (by omega), hh⟩, by omega, by omega⟩
    · rename_i hh
      obtain ⟨r1, r2, r3, r4, r5, r6, r7⟩ := wkF_ok (b := b) (f := f) (Q := Q) m (k + 1) (a + 1) (by omega) (by omega)
      refine ⟨r1, by omega, by omega, r4, r5, fun h1 j j1 j2 => ?_, r7⟩
      by_cases e : j = k
      · subst e; simpa using hh
      · exact r6 h1 j (by omega) j2
/-- one step of the way -/
theorem wk_ok {f : TF} (h : TreeOf s t f) {b p a : Nat} (ha : a ≤ b) :
    (wk c t b p a).2.2 ≤ b ∧ a ≤ (wk c t b p a).2.2 ∧ (wk c t b p a).2.2 ≤ a + (stpT t).length ∧ (wk c t b p a).1 ≤ 2 ∧
    ((wk c t b p a).1 = 0 → qB t (wk c t b p a).2.1 ∈ stpT t ∧ hld c (wd (qB t (wk c t b p a).2.1)) = true) ∧
    ((wk c t b p a).1 = 1 → ∀ u ∈ stpT t, hld c (wd u) = false) ∧
    ((wk c t b p a).1 = 2 → (wk c t b p a).2.2 = b ∧ 0 < (stpT t).length) := by
  have hp := prg_perm h
  have hl : (allQ t).length = (stpT t).length := by rw [← hp.length_eq]; simp [prgT]
  obtain ⟨r1, r2, r3, r4, r5, r6, r7⟩ := wkF_ok (c := c) (t := t) (b := b) (f := ffN (allQ t) p) (Q := allQ t) (allQ t).length 0 a (by omega) ha
  unfold wk
  refine ⟨r1, r2, by omega, r4, fun h0 => ?_, fun h1 u hu => ?_, fun h2 => by have := r7 h2; omega⟩
  · obtain ⟨q1, q2⟩ := r5 h0
    exact ⟨hp.mem_iff.1 (List.mem_map.2 ⟨_, q1, rfl⟩), q2⟩
  · obtain ⟨q, q1, q2⟩ := List.mem_map.1 (hp.mem_iff.2 hu)
    obtain ⟨k, k1, k2⟩ := qK_all (f := ffN (allQ t) p) q1
    have := r6 h1 k (Nat.zero_le _) k1
    rw [k2] at this
    rw [← q2]; exact this
/-- the way -/
theorem gw_ok (hk : (chk s).1 = 0) {b : Nat} : ∀ (m : Nat) (t : ByteArray) (f : TF) (p a : Nat), TreeOf s t f → t.size < m → a ≤ b →
    Way c t (gw c b m t p a).1 ∧ (gw c b m t p a).2.1 ≤ b ∧ (gw c b m t p a).2.1 ≤ a + (1 + (gw c b m t p a).1.length) * (stpT t).length ∧
    (((gw c b m t p a).2.2 = 1 ∧ ∀ u ∈ stpT (lastT t (gw c b m t p a).1), hld c (wd u) = false) ∨ ((gw c b m t p a).2.2 = 2 ∧ (gw c b m t p a).2.1 = b ∧ 0 < (stpT (lastT t (gw c b m t p a).1)).length))
  | 0, t, f, p, a, _, h, _ => by omega
  | m + 1, t, f, p, a, hT, hm, ha => by
    obtain ⟨r1, r2, r3, r4, r5, r6, r7⟩ := wk_ok (c := c) hT (b := b) (p := p) (a := a) ha
    unfold gw
    split
    · rename_i h0
      obtain ⟨q1, q2⟩ := r5 h0
      obtain ⟨st, f', hf'⟩ := stp_of hk hT q1
      have hsz := st.sz
      have hsn := st.sn
      generalize (wk c t b p a).2.1.1 = pp
      generalize (wk c t b p a).2.2 = aa at *
      generalize qB t (wk c t b p a).2.1 = u at *
      obtain ⟨s1, s2, s3, s4⟩ := gw_ok hk (b := b) m u f' pp aa hf' (by omega) r1
      simp only [lastT, List.length_cons]
      refine ⟨⟨q1, q2, s1⟩, s2, ?_, s4⟩
      have e1 : (1 + (gw c b m u pp aa).1.length) * (stpT u).length ≤ (1 + (gw c b m u pp aa).1.length) * (stpT t).length := Nat.mul_le_mul_left _ hsn
      have e2 : (1 + ((gw c b m u pp aa).1.length + 1)) * (stpT t).length = (1 + (gw c b m u pp aa).1.length) * (stpT t).length + (stpT t).length := by
        rw [show 1 + ((gw c b m u pp aa).1.length + 1) = (1 + (gw c b m u pp aa).1.length) + 1 by omega, Nat.add_mul]; omega
      omega
    · rename_i h0
      simp only [lastT, List.length_nil]
      refine ⟨trivial, r1, by omega, ?_⟩
      by_cases e : (wk c t b p a).1 = 1
      · exact .inl ⟨e, r6 e⟩
      · have e2 : (wk c t b p a).1 = 2 := by omega
        exact .inr ⟨e2, r7 e2⟩
end
end Go.Proofs.Ytnfaiaoipeholaa
/- Reduce of the document's own example. No Go here. -/
namespace Go.Proofs.Ytnfaiaoipeholaa
def hrG : ByteArray := ⟨#[83, 61, 123, 97, 124, 66, 125, 91, 99, 93, 59, 66, 61, 60, 98, 62, 59]⟩
def hrT : ByteArray := ⟨#[83, 40, 48, 123, 48, 97, 44, 49, 66, 40, 48, 60, 48, 98, 44, 48, 98, 62, 41, 125, 91, 48, 99, 93, 41]⟩
def hrB : ByteArray := ⟨#[98]⟩
def hrZ : ByteArray := ⟨#[83, 40, 48, 123, 49, 66, 40, 48, 60, 48, 98, 62, 41, 125, 91, 93, 41]⟩
def hrW : List ByteArray × Nat × Nat := gw hrB 99 (hrT.size + 1) hrT 0 0
theorem hr_rfs : rfs hrG hrT hrB 99 = 0 := by decide +kernel
theorem hr_why : hrW.2.2 = 1 := by decide +kernel
theorem hr_last : lastT hrT hrW.1 = hrZ := by decide +kernel
theorem hr_some : hrW.1 ≠ [] := by decide +kernel
end Go.Proofs.Ytnfaiaoipeholaa
/- Conditions, part by part. No Go here. -/
namespace Go.Proofs.Ytnfaiaoipeholaa
/-- where a part ends -/
def peF (c : ByteArray) : Nat → Nat → Nat
  | 0, i => i
  | n + 1, i => if bt c i = 44 then i else peF c n (i + 1)
def pe (c : ByteArray) (b : Nat) : Nat := peF c (c.size - b) b
theorem peF_bd (c : ByteArray) : ∀ n i, i ≤ peF c n i ∧ peF c n i ≤ i + n
  | 0, i => by simp [peF]
  | n + 1, i => by
    have := peF_bd c n (i + 1)
    unfold peF
    split <;> omega
theorem pe_bd {c : ByteArray} {b : Nat} (h : b ≤ c.size) : b ≤ pe c b ∧ pe c b ≤ c.size := by
  have := peF_bd c (c.size - b) b
  unfold pe; omega
theorem cutF_pe (c : ByteArray) : ∀ n i fr, i + n = c.size → cutF c 44 n i fr = (fr, peF c n i) :: (if peF c n i < c.size then cutF c 44 (c.size - (peF c n i + 1)) (peF c n i + 1) (peF c n i + 1) else [])
  | 0, i, fr, h => by
    rw [show peF c 0 i = i from rfl, if_neg (by omega), show cutF c 44 0 i fr = [(fr, c.size)] from rfl, show c.size = i by omega]
  | n + 1, i, fr, h => by
    rw [show cutF c 44 (n + 1) i fr = if bt c i = 44 then (fr, i) :: cutF c 44 n (i + 1) (i + 1) else cutF c 44 n (i + 1) fr from rfl, show peF c (n + 1) i = if bt c i = 44 then i else peF c n (i + 1) from rfl]
    by_cases h1 : bt c i = 44
    · simp only [if_pos h1]
      rw [if_pos (by omega), show c.size - (i + 1) = n by omega]
    · simp only [if_neg h1]
      exact cutF_pe c n (i + 1) fr (by omega)
/-- a part holds -/
def prh (c w : ByteArray) (a b : Nat) : Bool := stn w (prt c (a, b)).2 != (prt c (a, b)).1
/-- the parts from a place on hold -/
def hlF (c w : ByteArray) (b : Nat) : Bool := if b ≤ c.size then (cutF c 44 (c.size - b) b b).all fun q => prh c w q.1 q.2 else true
theorem hlF_zero (c w : ByteArray) : hlF c w 0 = hld c w := by
  unfold hlF hld cut
  rw [if_pos (Nat.zero_le _)]; rfl
theorem hlF_out {c w : ByteArray} {b : Nat} (h : c.size < b) : hlF c w b = true := by
  unfold hlF; rw [if_neg (by omega)]
theorem hlF_step {c w : ByteArray} {b : Nat} (h : b ≤ c.size) : hlF c w b = (prh c w b (pe c b) && hlF c w (pe c b + 1)) := by
  have hb := pe_bd h
  conv => lhs; unfold hlF
  rw [if_pos h, cutF_pe c (c.size - b) b b (by omega)]
  rw [show peF c (c.size - b) b = pe c b from rfl]
  by_cases h1 : pe c b < c.size
  · rw [if_pos h1]
    unfold hlF
    rw [if_pos (by omega), List.all_cons]
  · rw [if_neg h1, hlF_out (by omega)]
    simp
theorem pe_step {c : ByteArray} {k : Nat} (h : k < c.size) : pe c k = if bt c k = 44 then k else pe c (k + 1) := by
  unfold pe
  rw [show c.size - k = c.size - (k + 1) + 1 by omega]; rfl
theorem pe_out {c : ByteArray} {k : Nat} (h : c.size ≤ k) : pe c k = k := by
  unfold pe; rw [show c.size - k = 0 by omega]; rfl
/-- a piece of a piece -/
theorem ext_ext (t : ByteArray) {a b x y : Nat} (hb : b ≤ t.size) (hy : y ≤ b - a) (hab : a ≤ b) : (t.extract a b).extract x y = t.extract (a + x) (a + y) := by
  have hz : (t.extract a b).size = b - a := by rw [ByteArray.size_extract]; omega
  have hl : ((t.extract a b).extract x y).size = y - x := by rw [ByteArray.size_extract, hz]; omega
  have hr : (t.extract (a + x) (a + y)).size = y - x := by rw [ByteArray.size_extract]; omega
  refine bt_ext (by omega) (fun k hk => ?_)
  rw [hl] at hk
  rw [bt_at _ k (by omega), bt_at _ k (by omega), ByteArray.getElem_extract, ByteArray.getElem_extract, ByteArray.getElem_extract]
  congr 2
  simp only [Nat.add_assoc]
theorem bt_ext0 (t : ByteArray) {a b : Nat} (hb : b ≤ t.size) (hab : a < b) : bt (t.extract a b) (0 : Nat) = bt t a := by
  have hz : (t.extract a b).size = b - a := by rw [ByteArray.size_extract]; omega
  rw [bt_at _ 0 (by omega), bt_at t a (by omega), ByteArray.getElem_extract]
  rfl
theorem ext_size (t : ByteArray) {a b : Nat} (hb : b ≤ t.size) : (t.extract a b).size = b - a := by rw [ByteArray.size_extract]; omega
/-- a part, by its text -/
def ptx (p w : ByteArray) : Bool := if bt p (0 : Nat) = 33 then !stn w (p.extract 1 p.size) else stn w p
theorem prh_ptx {c w : ByteArray} {a b : Nat} (hab : a ≤ b) (hb : b ≤ c.size) : prh c w a b = ptx (c.extract a b) w := by
  have hz := ext_size c (a := a) hb
  unfold prh prt ptx
  by_cases h : a < b
  · rw [bt_ext0 c hb h]
    by_cases h2 : bt c a = 33
    · rw [if_pos ⟨h, h2⟩, if_pos h2, hz, ext_ext c hb (Nat.le_refl _) hab, show a + (b - a) = b by omega]
      simp
    · rw [if_neg (fun q => h2 q.2), if_neg h2]
      simp
  · rw [if_neg (fun q => h q.1), if_neg (by rw [bt_out _ _ (by omega)]; decide)]
    simp
/-- a condition's bytes, from a place on -/
def cdF (c : ByteArray) (k : Nat) : Bool := cndF c (c.size - k) k
theorem cdF_step {c : ByteArray} {k : Nat} (h : k < c.size) : cdF c k = (cndB c k && cdF c (k + 1)) := by
  unfold cdF
  rw [show c.size - k = c.size - (k + 1) + 1 by omega]; rfl
theorem cdF_out {c : ByteArray} {k : Nat} (h : c.size ≤ k) : cdF c k = true := by
  unfold cdF; rw [show c.size - k = 0 by omega]; rfl
/-- a piece stands somewhere, from a place on -/
def snF (w p : ByteArray) (k : Nat) : Bool := stnF w p (w.size + 1 - k) k
theorem snF_out {w p : ByteArray} {k : Nat} (h : w.size < k + p.size) : snF w p k = false := by
  unfold snF
  cases w.size + 1 - k with
  | zero => rfl
  | succ n => unfold stnF; rw [if_neg (by omega)]
theorem snF_step {w p : ByteArray} {k : Nat} (h : k + p.size ≤ w.size) : snF w p k = if w.extract k (k + p.size) = p then true else snF w p (k + 1) := by
  unfold snF
  rw [show w.size + 1 - k = w.size + 1 - (k + 1) + 1 by omega]
  show (if k + p.size ≤ w.size then _ else _) = _
  rw [if_pos h]
theorem snF_zero (w p : ByteArray) : snF w p 0 = stn w p := by unfold snF stn; rfl
end Go.Proofs.Ytnfaiaoipeholaa
/- What the answer of Reduce is, for those who ask. No Go here. -/
namespace Go.Proofs.Ytnfaiaoipeholaa
section
variable {s t c : ByteArray}
theorem way_at : ∀ (r : List ByteArray) (t : ByteArray), Way c t r → ∀ (i : Nat) (u : ByteArray), r[i]? = some u → ∃ v, (t :: r)[i]? = some v ∧ u ∈ stpT v ∧ hld c (wd u) = true
  | [], t, _, i, u, h => by simp at h
  | x :: r, t, hw, 0, u, h => by
    simp at h
    subst h
    exact ⟨t, rfl, hw.1, hw.2.1⟩
  | x :: r, t, hw, i + 1, u, h => by
    have := way_at r x hw.2.2 i u (by simpa using h)
    simpa using this
theorem way_tree (hk : (chk s).1 = 0) : ∀ (r : List ByteArray) (t : ByteArray) (f : TF), TreeOf s t f → Way c t r → ∀ u ∈ t :: r, ∃ f', TreeOf s u f'
  | [], t, f, h, _, u, hu => by
    simp at hu
    subst hu
    exact ⟨f, h⟩
  | x :: r, t, f, h, hw, u, hu => by
    rcases List.mem_cons.1 hu with e | e
    · rw [e]; exact ⟨f, h⟩
    · obtain ⟨_, f', hf'⟩ := stp_of hk h hw.1
      exact way_tree hk r x f' hf' hw.2.2 u e
theorem lastT_at : ∀ (r : List ByteArray) (t : ByteArray), (t :: r)[r.length]? = some (lastT t r)
  | [], t => rfl
  | x :: r, t => by
    have := lastT_at r x
    simpa [lastT] using this
theorem last_mem (r : List ByteArray) (t : ByteArray) : lastT t r ∈ t :: r := List.mem_of_getElem? (lastT_at r t)
theorem way_hold : ∀ (r : List ByteArray) (t : ByteArray), hld c (wd t) = true → Way c t r → ∀ u ∈ t :: r, hld c (wd u) = true
  | [], t, h, _, u, hu => by
    simp at hu
    subst hu
    exact h
  | x :: r, t, h, hw, u, hu => by
    rcases List.mem_cons.1 hu with e | e
    · rw [e]; exact h
    · exact way_hold r x hw.2.1 hw.2.2 u e
/-- the way's trees are cut out of it again -/
theorem way_cut (hk : (chk s).1 = 0) {f : TF} (h : TreeOf s t f) {r : List ByteArray} (hw : Way c t r) : cut (strOfNums (wayL (t :: r))) 10 = wsp (t :: r) 0 ∧ (wsp (t :: r) 0).map (fun p => (strOfNums (wayL (t :: r))).extract p.1 p.2) = t :: r :=
  cut_way _ (by simp) (fun u hu => by
    obtain ⟨f', hf'⟩ := way_tree hk r t f h hw u hu
    exact hf'.wo)
/-- how long a way is -/
theorem wayL_len : ∀ (l : List ByteArray) (n : Nat), (∀ u ∈ l, u.size ≤ n) → (wayL l).length ≤ l.length * (n + 1)
  | [], n, _ => by simp [wayL]
  | [t], n, h => by
    have := h t (by simp)
    simp only [wayL, List.length_cons, List.length_nil]
    rw [seg_size]; omega
  | t :: u :: r, n, h => by
    have h1 := h t (by simp)
    have h2 := wayL_len (u :: r) n (fun x hx => h x (by simp at hx ⊢; exact .inr hx))
    simp only [wayL, List.length_append, List.length_cons]
    rw [seg_size]
    simp only [List.length_cons] at h2
    rw [show (r.length + 1 + 1) * (n + 1) = (r.length + 1) * (n + 1) + (n + 1) by rw [Nat.add_mul (r.length + 1) 1 (n + 1)]; omega]
    omega
/-- what Reduce answers where nothing is refused -/
structure Rdc (s t c : ByteArray) (b : Nat) (f : TF) (r : List ByteArray) (a y : Nat) : Prop where
  gram : (chk s).1 = 0
  tree : TreeOf s t f
  cnd : cnd c = true
  le : b ≤ 9999
  hold : hld c (wd t) = true
  way : Way c t r
  ask : a ≤ b
  few : a ≤ (1 + r.length) * (stpT t).length
  why : (y = 1 ∧ ∀ u ∈ stpT (lastT t r), hld c (wd u) = false) ∨ (y = 2 ∧ a = b ∧ 0 < (stpT (lastT t r)).length)
theorem rfs_zero {b : Int} (h : rfs s t c b = 0) : (hgt s t).2 = 0 ∧ cnd c = true ∧ 0 ≤ b ∧ b ≤ 9999 ∧ hld c (wd t) = true := by
  unfold rfs at h
  split at h
  · rename_i h0; exact absurd h h0
  rename_i h0
  split at h
  · cases h
  rename_i h1
  split at h
  · cases h
  rename_i h2
  split at h
  · cases h
  rename_i h3
  exact ⟨by omega, by simpa using h1, by omega, by omega, by simpa using h3⟩
theorem hgt_tree (h : (hgt s t).2 = 0) : (chk s).1 = 0 ∧ ∃ (f : TF) (n : Nat), TreeOf s t f ∧ hgt s t = ((n : Int), 0) := by
  obtain ⟨hk, n, hn, _⟩ := hgt_whole h
  obtain ⟨f, h1, h2⟩ := whole_tree (start_f (gram_of hk)) hn
  exact ⟨hk, f, n, h1, whole_hgt hk hn⟩
theorem rdc_ok {b : Int} (h : rfs s t c b = 0) : ∃ f r a y, rdc s t c b = (strOfNums (wayL (t :: r)), a, y, 0) ∧ Rdc s t c b.toNat f r a y := by
  obtain ⟨h1, h2, h3, h4, h5⟩ := rfs_zero h
  obtain ⟨hk, f, n, hf, hn⟩ := hgt_tree h1
  obtain ⟨g1, g2, g3, g4⟩ := gw_ok (c := c) hk (b := b.toNat) (t.size + 1) t f 0 0 hf (by omega) (by omega)
  refine ⟨f, _, _, _, ?_, hk, hf, h2, by omega, h5, g1, g2, by omega, g4⟩
  unfold rdc
  rw [if_neg (by simp [h])]
theorem rdc_no {b : Int} (h : rfs s t c b ≠ 0) : rdc s t c b = (ByteArray.empty, 0, 0, rfs s t c b) := by
  unfold rdc; rw [if_pos h]
theorem wkF_done {b f : Nat} {Q : List Qd} : ∀ m k a, k + m = Q.length → a + m ≤ b → (∀ j, j < Q.length → hld c (wd (qB t (qK Q f j))) = false) → (wkF c t b Q f m k a).1 = 1
  | 0, k, a, _, _, _ => rfl
  | m + 1, k, a, h, ha, hq => by
    unfold wkF
    rw [if_neg (by omega), if_neg (by rw [hq k (by omega)]; decide)]
    exact wkF_done m (k + 1) (a + 1) (by omega) (by omega) hq
/-- where no step's tree meets the condition the way is the tree alone -/
theorem rdc_done {f : TF} {n : Nat} (hk : (chk s).1 = 0) (h : TreeOf s t f) (hn : hgt s t = ((n : Int), 0)) (h9 : n ≤ 9) (hc : cnd c = true) (hh : hld c (wd t) = true) (hd : ∀ u ∈ stpT t, hld c (wd u) = false) : ∃ a, rdc s t c 9999 = (t, a, 1, 0) := by
  have hr : rfs s t c 9999 = 0 := by
    unfold rfs
    rw [hn, if_neg (by simp), if_neg (by simp [hc]), if_neg (by omega), if_neg (by simp [hh])]
  have hp := prg_perm h
  have hl : (allQ t).length = (stpT t).length := by rw [← hp.length_eq]; simp [prgT]
  have hfew := stp_few hk h hn h9
  have hw : (wk c t 9999 0 0).1 = 1 := by
    unfold wk
    refine wkF_done _ 0 0 (by omega) (by omega) (fun j hj => hd _ (hp.mem_iff.1 (List.mem_map.2 ⟨_, qK_mem (by omega), rfl⟩)))
  refine ⟨(wk c t 9999 0 0).2.2, ?_⟩
  unfold rdc
  rw [if_neg (by simp [hr])]
  have hg : gw c (9999 : Int).toNat (t.size + 1) t 0 0 = ([], (wk c t 9999 0 0).2.2, 1) := by
    show (if (wk c t 9999 0 0).1 = 0 then _ else ([], (wk c t 9999 0 0).2.2, (wk c t 9999 0 0).1)) = _
    rw [if_neg (by omega), hw]
  rw [hg]
  simp only [wayL]
  rw [strs_seg]
end
end Go.Proofs.Ytnfaiaoipeholaa
