/- TrJ TrK TrL TrM StA -/
import Derived.Test.YtnfaiaoipeholaaGreatDoorAa31
namespace Go.Proofs.YtnfaiaoipeholaaGreatDoor
set_option linter.unusedSimpArgs false
set_option linter.unusedVariables false
section
variable {s t : ByteArray}
theorem byts_all : (∀ z, (fun (e : (TE TF)) => ∀ (x : Nat), e.ok s x → Byts e.rd) z) ∧ (∀ z, (fun (fs : TFs) => ∀ (l : List Nat), (TFs.ok s fs) l → Byts (TFs.rd fs)) z) ∧ (∀ z, (fun (f : TF) => ∀ (p : Nat), f.ok s p → Byts f.rd) z) ∧ (∀ z, (fun (es : TEs) => ∀ (x : Nat), (TEs.ok s es) x → Byts (TEs.rt es)) z) := by
  refine tree_ind ?_ ?_ ?_ ?_ ?_ ?_ ?_ ?_
  · intro d fs ihfs x h
    simp only [TE.ok_mk] at h
    obtain ⟨hd, a, _, h2⟩ := h
    simp only [TE.rd_mk]
    exact Byts.cons (by omega) (ihfs _ h2)
  · intro l h
    simp only [TFs.rd_nil, TFs.rd_cons]; exact Byts.nil
  · intro f fs ihf ihfs l h
    simp only [TFs.ok_nil, TFs.ok_cons] at h
    obtain ⟨p, q, _, h1, h2⟩ := h
    simp only [TFs.rd_nil, TFs.rd_cons]
    exact (ihf p h1).app (ihfs q h2)
  · intro c p h
    simp only [TF.ok_lt, TF.ok_nm, TF.ok_br] at h
    simp only [TF.rd_lt, TF.rd_nm, TF.rd_br]
    exact Byts.cons (by rw [h.2]; exact bt_byte s p) Byts.nil
  · intro c e ihe p h
    simp only [TF.ok_lt, TF.ok_nm, TF.ok_br] at h
    simp only [TF.rd_lt, TF.rd_nm, TF.rd_br]
    exact Byts.cons (by rw [h.2.1]; exact bt_byte s p) (Byts.cons (by omega) ((ihe _ h.2.2).app (Byts.cons (by omega) Byts.nil)))
  · intro o es _ ihb p h
    simp only [TF.ok_lt, TF.ok_nm, TF.ok_br] at h
    obtain ⟨h1, h2, _, h3⟩ := h
    simp only [TF.rd_lt, TF.rd_nm, TF.rd_br]
    refine Byts.cons (by rw [h2]; exact bt_byte s p) (Byts.app ?_ (Byts.cons (cC_bd _) Byts.nil))
    cases es with
    | nil => simp only [TEs.rd_nil, TEs.rd_cons]; exact Byts.nil
    | cons e es =>
      simp only [TEs.ok_nil, TEs.ok_cons] at h3
      simp only [TEs.rd_nil, TEs.rd_cons]
      exact ((ihb _ _ rfl).1 _ h3.1).app ((ihb _ _ rfl).2 _ h3.2)
  · intro x h
    simp only [TEs.rt_nil, TEs.rt_cons]; exact Byts.nil
  · intro e es ihe ihes x h
    simp only [TEs.ok_nil, TEs.ok_cons] at h
    simp only [TEs.rt_nil, TEs.rt_cons]
    exact Byts.cons (by omega) ((ihe _ h.1).app (ihes _ h.2))
theorem TE.byts : ∀ (e : (TE TF)) (x : Nat), e.ok s x → Byts e.rd := byts_all.1
theorem TFs.byts : ∀ (fs : TFs) (l : List Nat), (TFs.ok s fs) l → Byts (TFs.rd fs) := byts_all.2.1
theorem TF.byts : ∀ (f : TF) (p : Nat), f.ok s p → Byts f.rd := byts_all.2.2.1
theorem TEs.byts : ∀ (es : TEs) (x : Nat), (TEs.ok s es) x → Byts (TEs.rt es) := byts_all.2.2.2
theorem TreeOf.mk_ {f : TF} (h : f.ok s 0) (hz : f.rd.length ≤ 2000) : TreeOf s (strOfNums f.rd) f :=
  ⟨h, At.strs (TF.byts f 0 h), by rw [strOfNums_size], by rw [strOfNums_size]; exact hz⟩
theorem TreeOf.step {f f' : TF} (h : TreeOf s t f) (hf : f' ∈ f.st) : TreeOf s (strOfNums f'.rd) f' := by
  refine TreeOf.mk_ (TF.st_ok f f' 0 h.ok hf) ?_
  have h1 := (TF.st_le f f' hf).2
  have h2 := h.sz
  have h3 := h.le
  rw [TF.nu_len] at h2 ⊢
  omega
/-- how long the word is -/
theorem TreeOf.word {f : TF} (h : TreeOf s t f) : (wd t).size = f.nu.wl := by
  rw [wd_tl, strOfNums_size, tl_all h.at_ h.sz, TF.nu_wl f 0 h.ok]
/-- the texts that one step makes of a text -/
def stpT (t : ByteArray) : List ByteArray := (rgS t 0 t.size).map strOfNums
theorem TreeOf.stps {f : TF} (h : TreeOf s t f) : stpT t = f.st.map fun f' => strOfNums f'.rd := by
  unfold stpT; rw [stS_all h, List.map_map]; rfl
/-- what a step leads to -/
structure Stp (s t t' : ByteArray) : Prop where
  ht : ∀ n : Nat, hgt s t = ((n : Int), 0) → ∃ n' : Nat, hgt s t' = ((n' : Int), 0) ∧ n' ≤ n
  sz : t'.size < t.size
  wl : (wd t').size ≤ (wd t).size
  sn : (stpT t').length ≤ (stpT t).length
theorem stp_of (hk : (chk s).1 = 0) {f : TF} (h : TreeOf s t f) {t' : ByteArray} (hm : t' ∈ stpT t) : Stp s t t' ∧ ∃ f', TreeOf s t' f' := by
  have g := gram_of hk
  have hF := start_f g
  rw [h.stps, List.mem_map] at hm
  obtain ⟨f', h1, rfl⟩ := hm
  have h' := h.step h1
  obtain ⟨le, lt⟩ := TF.st_le f f' h1
  refine ⟨⟨fun n hn => ?_, ?_, ?_, ?_⟩, f', h'⟩
  · have e1 := whole_hgt hk (h.whole hF)
    have e2 := whole_hgt hk (h'.whole hF)
    rw [e1] at hn
    refine ⟨f'.ht, e2, ?_⟩
    have := le.ht
    rw [← TF.nu_ht, ← TF.nu_ht] at this
    have hn' := congrArg Prod.fst hn
    simp only at hn'
    omega
  · rw [h'.sz, h.sz, TF.nu_len, TF.nu_len]; exact lt
  · rw [h'.word, h.word]; exact le.wl
  · rw [h'.stps, h.stps, List.length_map, List.length_map, TF.nu_sn, TF.nu_sn]; exact le.sn
end
/-- the pieces of a text between bytes: their spans -/
def cutF (s : ByteArray) (c : Int) : Nat → Nat → Nat → List (Nat × Nat)
  | 0, _, fr => [(fr, s.size)]
  | n + 1, i, fr => if bt s i = c then (fr, i) :: cutF s c n (i + 1) (i + 1) else cutF s c n (i + 1) fr
def cut (s : ByteArray) (c : Int) : List (Nat × Nat) := cutF s c s.size 0 0
/-- does the piece stand somewhere in the word, from a place on? -/
def stnF (w p : ByteArray) : Nat → Nat → Bool
  | 0, _ => false
  | n + 1, i => if i + p.size ≤ w.size then (if w.extract i (i + p.size) = p then true else stnF w p n (i + 1)) else false
def stn (w p : ByteArray) : Bool := stnF w p (w.size + 1) 0
/-- a part of a condition: must it not stand? what? -/
def prt (c : ByteArray) (q : Nat × Nat) : Bool × ByteArray := if q.1 < q.2 ∧ bt c q.1 = 33 then (true, c.extract (q.1 + 1) q.2) else (false, c.extract q.1 q.2)
/-- the condition holds for the word -/
def hld (c w : ByteArray) : Bool := (cut c 44).all fun q => stn w (prt c q).2 != (prt c q).1
/-- a byte of a condition -/
def cndB (c : ByteArray) (i : Nat) : Bool := cL (bt c i) || bt c i == 44 || (bt c i == 33 && (i == 0 || bt c ((i : Int) - 1) == 44))
def cndF (c : ByteArray) : Nat → Nat → Bool
  | 0, _ => true
  | n + 1, i => cndB c i && cndF c n (i + 1)
/-- a condition -/
def cnd (c : ByteArray) : Bool := decide (c.size ≤ 300) && cndF c c.size 0
/-- P9's error, or 0 -/
def rfs (s t c : ByteArray) (budget : Int) : Int :=
  if (hgt s t).2 ≠ 0 then (hgt s t).2
  else if cnd c = false then 14
  else if budget < 0 ∨ 9999 < budget then 9
  else if hld c (wd t) = false then 15
  else 0
/-- trees with newlines between -/
def wayL : List ByteArray → List Int
  | [] => []
  | [t] => seg t 0 t.size
  | t :: u :: r => seg t 0 t.size ++ (10 :: wayL (u :: r))
/-- each is a step from the one ahead, and meets the condition -/
def Way (c : ByteArray) : ByteArray → List ByteArray → Prop
  | _, [] => True
  | t, u :: r => u ∈ stpT t ∧ hld c (wd u) = true ∧ Way c u r
/-- the last of them -/
def lastT : ByteArray → List ByteArray → ByteArray
  | t, [] => t
  | _, u :: r => lastT u r
theorem way_trees {s c : ByteArray} (hk : (chk s).1 = 0) : ∀ (r : List ByteArray) (t : ByteArray) (f : TF), TreeOf s t f → Way c t r → (∃ f', TreeOf s (lastT t r) f') ∧ (stpT (lastT t r)).length ≤ (stpT t).length ∧ (lastT t r).size + r.length ≤ t.size ∧ ∀ n : Nat, hgt s t = ((n : Int), 0) → ∃ n' : Nat, hgt s (lastT t r) = ((n' : Int), 0) ∧ n' ≤ n
  | [], t, f, h, _ => ⟨⟨f, h⟩, Nat.le_refl _, by simp [lastT], fun n hn => ⟨n, hn, Nat.le_refl _⟩⟩
  | u :: r, t, f, h, hw => by
    obtain ⟨h1, h2, h3⟩ := hw
    obtain ⟨q, f', hf'⟩ := stp_of hk h h1
    obtain ⟨r1, r2, r3, r4⟩ := way_trees hk r u f' hf' h3
    refine ⟨r1, Nat.le_trans r2 q.sn, ?_, fun n hn => ?_⟩
    · have := q.sz
      simp only [lastT, List.length_cons]; omega
    · obtain ⟨n1, e1, e2⟩ := q.ht n hn
      obtain ⟨n2, e3, e4⟩ := r4 n1 e1
      exact ⟨n2, e3, by omega⟩
end Go.Proofs.YtnfaiaoipeholaaGreatDoor

namespace Go.Proofs.YtnfaiaoipeholaaGreatDoor
set_option linter.unusedSimpArgs false
set_option linter.unusedVariables false
section
variable {s t : ByteArray}
theorem segB (s : ByteArray) : ∀ n i, Byts (segF s n i)
  | 0, _ => Byts.nil
  | n + 1, i => Byts.cons (bt_byte s i) (segB s n (i + 1))
theorem bt_ext {a b : ByteArray} (h : a.size = b.size) (g : ∀ k : Nat, k < a.size → bt a k = bt b k) : a = b := by
  have e : seg a 0 a.size = seg b 0 b.size := by
    apply List.ext_getElem
    · unfold seg; rw [segF_len, segF_len]; omega
    · intro k h1 h2
      have q1 : (seg a 0 a.size)[k] = bt a (0 + k : Nat) := seg_get a _ 0 k h1
      have q2 : (seg b 0 b.size)[k] = bt b (0 + k : Nat) := seg_get b _ 0 k h2
      rw [q1, q2, Nat.zero_add]
      refine g k ?_
      unfold seg at h1
      rw [segF_len] at h1; omega
  rw [← strs_seg a, ← strs_seg b, e]
/-- a piece of a text, by its bytes -/
theorem ext_seg (t : ByteArray) {a b : Nat} (h : b ≤ t.size) : t.extract a b = strOfNums (seg t a b) := by
  have hl : (seg t a b).length = b - a := by unfold seg; rw [segF_len]
  have hz : (t.extract a b).size = b - a := by rw [ByteArray.size_extract]; omega
  refine bt_ext (by rw [hz, strOfNums_size, hl]) (fun k hk => ?_)
  rw [hz] at hk
  have h2 : k < (seg t a b).length := by omega
  have hB : Byts (seg t a b) := segB t _ _
  rw [bt_strs hB h2]
  have e1 : (seg t a b)[k] = bt t (a + k : Nat) := seg_get t (b - a) a k h2
  rw [e1, bt_at t (a + k) (by omega), bt_at (t.extract a b) k (by omega), ByteArray.getElem_extract]
/-- bytes without one of them -/
def Wo (c : Int) (L : List Int) : Prop := ∀ x ∈ L, x ≠ c
theorem Wo.nil {c : Int} : Wo c [] := fun x hx => by cases hx
theorem Wo.cons {c x : Int} {L : List Int} (h : x ≠ c) (g : Wo c L) : Wo c (x :: L) := fun y hy => by
  rcases List.mem_cons.1 hy with e | e
  · rw [e]; exact h
  · exact g y e
theorem Wo.app {c : Int} {A B : List Int} (h : Wo c A) (g : Wo c B) : Wo c (A ++ B) := fun y hy => by
  rcases List.mem_append.1 hy with e | e
  · exact h y e
  · exact g y e
theorem wo_all : (∀ z, (fun (e : (TE TF)) => ∀ (x : Nat), e.ok s x → Wo 10 e.rd) z) ∧ (∀ z, (fun (fs : TFs) => ∀ (l : List Nat), (TFs.ok s fs) l → Wo 10 (TFs.rd fs)) z) ∧ (∀ z, (fun (f : TF) => ∀ (p : Nat), f.ok s p → Wo 10 f.rd) z) ∧ (∀ z, (fun (es : TEs) => ∀ (x : Nat), (TEs.ok s es) x → Wo 10 (TEs.rt es)) z) := by
  refine tree_ind ?_ ?_ ?_ ?_ ?_ ?_ ?_ ?_
  · intro d fs ihfs x h
    simp only [TE.ok_mk] at h
    obtain ⟨hd, a, _, h2⟩ := h
    simp only [TE.rd_mk]
    exact Wo.cons (by omega) (ihfs _ h2)
  · intro l h
    simp only [TFs.rd_nil, TFs.rd_cons]; exact Wo.nil
  · intro f fs ihf ihfs l h
    simp only [TFs.ok_nil, TFs.ok_cons] at h
    obtain ⟨p, q, _, h1, h2⟩ := h
    simp only [TFs.rd_nil, TFs.rd_cons]
    exact (ihf p h1).app (ihfs q h2)
  · intro c p h
    simp only [TF.ok_lt, TF.ok_nm, TF.ok_br] at h
    have hw : 97 ≤ bt s p ∧ bt s p ≤ 122 := by simpa [cL] using h.1
    simp only [TF.rd_lt, TF.rd_nm, TF.rd_br]
    exact Wo.cons (by have := h.2; omega) Wo.nil
  · intro c e ihe p h
    simp only [TF.ok_lt, TF.ok_nm, TF.ok_br] at h
    have hw : 65 ≤ bt s p ∧ bt s p ≤ 90 := by simpa [cN] using h.1
    simp only [TF.rd_lt, TF.rd_nm, TF.rd_br]
    exact Wo.cons (by have := h.2.1; omega) (Wo.cons (by decide) ((ihe _ h.2.2).app (Wo.cons (by decide) Wo.nil)))
  · intro o es _ ihb p h
    simp only [TF.ok_lt, TF.ok_nm, TF.ok_br] at h
    obtain ⟨h1, h2, _, h3⟩ := h
    have hov := cO_vals h1
    have hcv := cC_vals o
    simp only [TF.rd_lt, TF.rd_nm, TF.rd_br]
    refine Wo.cons (by omega) (Wo.app ?_ (Wo.cons (by omega) Wo.nil))
    cases es with
    | nil => simp only [TEs.rd_nil, TEs.rd_cons]; exact Wo.nil
    | cons e es =>
      simp only [TEs.ok_nil, TEs.ok_cons] at h3
      simp only [TEs.rd_nil, TEs.rd_cons]
      exact ((ihb _ _ rfl).1 _ h3.1).app ((ihb _ _ rfl).2 _ h3.2)
  · intro x h
    simp only [TEs.rt_nil, TEs.rt_cons]; exact Wo.nil
  · intro e es ihe ihes x h
    simp only [TEs.ok_nil, TEs.ok_cons] at h
    simp only [TEs.rt_nil, TEs.rt_cons]
    exact Wo.cons (by decide) ((ihe _ h.1).app (ihes _ h.2))
theorem TE.wo : ∀ (e : (TE TF)) (x : Nat), e.ok s x → Wo 10 e.rd := wo_all.1
theorem TFs.wo : ∀ (fs : TFs) (l : List Nat), (TFs.ok s fs) l → Wo 10 (TFs.rd fs) := wo_all.2.1
theorem TF.wo : ∀ (f : TF) (p : Nat), f.ok s p → Wo 10 f.rd := wo_all.2.2.1
theorem TEs.wo : ∀ (es : TEs) (x : Nat), (TEs.ok s es) x → Wo 10 (TEs.rt es) := wo_all.2.2.2
theorem TreeOf.wo {f : TF} (h : TreeOf s t f) : Wo 10 (seg t 0 t.size) := by
  have h1 : seg t 0 t.size = f.rd := by
    have := seg_At h.at_
    rw [Nat.zero_add, ← h.sz] at this; exact this
  rw [h1]; exact TF.wo f 0 h.ok
/-- over bytes without it nothing is cut -/
theorem cutF_skip {c : Int} : ∀ (L : List Int) (n a fr : Nat), Wo c L → At t a L → L.length ≤ n → cutF t c n a fr = cutF t c (n - L.length) (a + L.length) fr
  | [], n, a, fr, _, _, _ => rfl
  | x :: L, n, a, fr, hw, hA, hn => by
    simp only [List.length_cons] at hn ⊢
    obtain ⟨m, rfl⟩ : ∃ m, n = m + 1 := ⟨n - 1, by omega⟩
    have ih := cutF_skip L m (a + 1) fr (fun y hy => hw y (by simp [hy])) hA.tail (by omega)
    conv => lhs; unfold cutF
    rw [if_neg (by rw [hA.head]; exact hw x (by simp)), ih]
    rw [show m + 1 - (L.length + 1) = m - L.length by omega, show a + (L.length + 1) = a + 1 + L.length by omega]
/-- the spans of the trees of a way -/
def wsp : List ByteArray → Nat → List (Nat × Nat)
  | [], _ => []
  | [t], a => [(a, a + t.size)]
  | t :: u :: r, a => (a, a + t.size) :: wsp (u :: r) (a + t.size + 1)
theorem seg_size (t : ByteArray) : (seg t 0 t.size).length = t.size := by unfold seg; rw [segF_len]; omega
theorem cutF_way {w : ByteArray} : ∀ (l : List ByteArray) (n a : Nat), l ≠ [] → (∀ t ∈ l, Wo 10 (seg t 0 t.size)) → At w a (wayL l) → w.size = a + (wayL l).length → n = (wayL l).length → cutF w 10 n a a = wsp l a
  | [], n, a, h, _, _, _, _ => absurd rfl h
  | [t], n, a, _, ho, hA, hz, hn => by
    simp only [wayL] at hA hz hn
    rw [cutF_skip (seg t 0 t.size) n a a (ho t (by simp)) hA (by omega), hn, Nat.sub_self]
    simp only [cutF, wsp]
    rw [hz, seg_size]
  | t :: u :: r, n, a, _, ho, hA, hz, hn => by
    simp only [wayL] at hA hz hn
    have hl : (seg t 0 t.size ++ 10 :: wayL (u :: r)).length = t.size + (1 + (wayL (u :: r)).length) := by simp [seg_size]; omega
    rw [hl] at hz hn
    have hA2 := hA.right
    rw [seg_size] at hA2
    have ih := cutF_way (u :: r) (wayL (u :: r)).length (a + t.size + 1) (by simp) (fun x hx => ho x (by simp at hx ⊢; exact .inr hx)) hA2.tail (by omega) rfl
    rw [cutF_skip (seg t 0 t.size) n a a (ho t (by simp)) hA.left (by rw [seg_size]; omega), seg_size, hn, show t.size + (1 + (wayL (u :: r)).length) - t.size = (wayL (u :: r)).length + 1 by omega]
    conv => lhs; unfold cutF
    rw [if_pos hA2.head, ih]
    simp only [wsp]
/-- the pieces are the trees -/
theorem wsp_txt {w : ByteArray} : ∀ (l : List ByteArray) (a : Nat), At w a (wayL l) → a + (wayL l).length ≤ w.size → (wsp l a).map (fun p => w.extract p.1 p.2) = l
  | [], a, _, _ => rfl
  | [t], a, hA, hz => by
    simp only [wayL] at hA hz
    simp only [wsp, List.map_cons, List.map_nil]
    rw [seg_size] at hz
    have h1 := seg_At hA
    rw [seg_size] at h1
    rw [ext_seg w hz, h1, strs_seg]
  | t :: u :: r, a, hA, hz => by
    simp only [wayL] at hA hz
    have hl : (seg t 0 t.size ++ 10 :: wayL (u :: r)).length = t.size + (1 + (wayL (u :: r)).length) := by simp [seg_size]; omega
    rw [hl] at hz
    have hA2 := hA.right
    rw [seg_size] at hA2
    have ih := wsp_txt (u :: r) (a + t.size + 1) hA2.tail (by omega)
    have h1 := seg_At hA.left
    rw [seg_size] at h1
    simp only [wsp, List.map_cons]
    rw [ih, ext_seg w (by omega), h1, strs_seg]
theorem wayL_byts : ∀ l : List ByteArray, Byts (wayL l)
  | [] => Byts.nil
  | [t] => by simp only [wayL]; exact segB t _ _
  | t :: u :: r => by
    simp only [wayL]
    exact Byts.app (segB t _ _) (Byts.cons (by omega) (wayL_byts (u :: r)))
/-- a way, cut at its newlines, is its trees -/
theorem cut_way (l : List ByteArray) (hl : l ≠ []) (ho : ∀ t ∈ l, Wo 10 (seg t 0 t.size)) : cut (strOfNums (wayL l)) 10 = wsp l 0 ∧ (wsp l 0).map (fun p => (strOfNums (wayL l)).extract p.1 p.2) = l := by
  have hA : At (strOfNums (wayL l)) 0 (wayL l) := At.strs (wayL_byts l)
  have hz : (strOfNums (wayL l)).size = (wayL l).length := strOfNums_size _
  refine ⟨?_, wsp_txt l 0 hA (by omega)⟩
  unfold cut
  exact cutF_way l _ 0 hl ho hA (by omega) hz
end
end Go.Proofs.YtnfaiaoipeholaaGreatDoor

namespace Go.Proofs.YtnfaiaoipeholaaGreatDoor
section
variable {s t c : ByteArray}
theorem strs_app (A B : List Int) : strOfNums A ++ strOfNums B = strOfNums (A ++ B) := by
  have h : (strOfNums A ++ strOfNums B).data = (strOfNums (A ++ B)).data := by rw [ByteArray.data_append]; simp [strOfNums]
  cases h1 : strOfNums A ++ strOfNums B with
  | mk d => cases h2 : strOfNums (A ++ B) with
    | mk d' => rw [h1, h2] at h; simp at h; rw [h]
end
end Go.Proofs.YtnfaiaoipeholaaGreatDoor

namespace Go.Proofs.YtnfaiaoipeholaaGreatDoor
end Go.Proofs.YtnfaiaoipeholaaGreatDoor

namespace Go.Proofs.YtnfaiaoipeholaaGreatDoor
set_option linter.unusedSimpArgs false
set_option linter.unusedVariables false
/-- where the part ends that begins here -/
def en (t : ByteArray) (j : Nat) : Nat := if cO (bt t j) = true then mt t j + 1 else j + 1
/-- the same, of any place -/
def enP (t : ByteArray) (j : Nat) : Nat := if j < t.size then en t j else t.size
/-- where an element ends -/
def eqeF (t : ByteArray) : Nat → Nat → Nat
  | 0, e => e
  | n + 1, e => if e < t.size ∧ bt t e ≠ 44 ∧ cX (bt t e) = false then eqeF t n (en t e) else e
def elE (t : ByteArray) (i : Nat) : Nat := eqeF t t.size i
/-- a step: what is left stands ahead of the first place, between the next two, from the last on -/
abbrev Qd := Nat × Nat × Nat × Nat
/-- the text that a step makes -/
def qT (t : ByteArray) (q : Qd) : List Int := if q.1 ≤ q.2.1 ∧ q.2.1 ≤ q.2.2.1 ∧ q.2.2.1 ≤ q.2.2.2 ∧ q.2.2.2 ≤ t.size then seg t 0 q.1 ++ (seg t q.2.1 q.2.2.1 ++ seg t q.2.2.2 t.size) else seg t 0 t.size
def cutQ (a b : Nat) : Qd := (a, b, b, b)
/-- an option's step -/
def optQ (t : ByteArray) (i : Nat) : List Qd := if i + 1 < enP t i - 1 then [cutQ (i + 1) (enP t i - 1)] else []
/-- an element's -/
def eleQ (t : ByteArray) (i : Nat) : List Qd :=
  if bt t ((i : Int) - 1) = 44 then [cutQ (i - 1) (elE t i)]
  else if bt t (elE t i) = 44 then [cutQ i (elE t i + 1)]
  else if bt t ((i : Int) - 1) = 123 then [cutQ i (elE t i)]
  else []
/-- a name's -/
def namQ (t : ByteArray) (i : Nat) : List Qd := (nmS t (bt t i) (i + 1) (enP t (i + 1) - (i + 1))).reverse.map fun j => (i, j, enP t (j + 1), enP t (i + 1))
/-- those that are found at a place -/
def plQ (t : ByteArray) (i : Nat) : List Qd := (if bt t i = 91 then optQ t i else []) ++ ((if cN (bt t i) = true then namQ t i else []) ++ (if cD (bt t i) = true then eleQ t i else []))
/-- all of them -/
def allQ (t : ByteArray) : List Qd := (List.range t.size).flatMap (plQ t)
/-- their texts, over some places -/
def pgT (t : ByteArray) (i n : Nat) : List (List Int) := (List.range' i n).flatMap fun j => (plQ t j).map (qT t)
section
variable {s t : ByteArray}
theorem pgT_add (t : ByteArray) (i n m : Nat) : pgT t i (n + m) = pgT t i n ++ pgT t (i + n) m := by
  unfold pgT
  rw [← List.range'_append_1, List.flatMap_append]
theorem pgT_one (t : ByteArray) (i : Nat) : pgT t i 1 = (plQ t i).map (qT t) := by simp [pgT]
theorem plQ_no {i : Nat} (h1 : bt t i ≠ 91) (h2 : cN (bt t i) = false) (h3 : cD (bt t i) = false) : plQ t i = [] := by
  unfold plQ
  rw [if_neg h1, if_neg (by simp [h2]), if_neg (by simp [h3])]; rfl
theorem pgT_no {i : Nat} (h1 : bt t i ≠ 91) (h2 : cN (bt t i) = false) (h3 : cD (bt t i) = false) : pgT t i 1 = [] := by
  rw [pgT_one, plQ_no h1 h2 h3]; rfl
theorem pgT_dig {i : Nat} (h : cD (bt t i) = true) : pgT t i 1 = (eleQ t i).map (qT t) := by
  have hv : 48 ≤ bt t i ∧ bt t i ≤ 57 := by simpa [cD] using h
  rw [pgT_one]
  unfold plQ
  rw [if_neg (by omega), if_neg (by simp [cN]; omega), if_pos h]; rfl
theorem qT_cut {a b : Nat} (h1 : a ≤ b) (h2 : b ≤ t.size) : qT t (cutQ a b) = seg t 0 a ++ seg t b t.size := by
  unfold qT cutQ
  simp only
  rw [if_pos ⟨h1, Nat.le_refl _, Nat.le_refl _, h2⟩, seg_self]; rfl
/-- an element goes on over these bytes -/
def EE (t : ByteArray) (L : List Int) : Prop := ∀ n i, At t i L → L.length ≤ n → ∃ n', n - L.length ≤ n' ∧ eqeF t n i = eqeF t n' (i + L.length)
theorem EE.nil : EE t [] := fun n _ _ _ => ⟨n, by simp, rfl⟩
theorem EE.app {A B : List Int} (h : EE t A) (g : EE t B) : EE t (A ++ B) := fun n i hA hn => by
  simp only [List.length_append] at hn ⊢
  obtain ⟨n1, q1, q2⟩ := h n i hA.left (by omega)
  obtain ⟨n2, q3, q4⟩ := g n1 (i + A.length) hA.right (by omega)
  exact ⟨n2, by omega, by rw [q2, q4]; congr 1; omega⟩
theorem EE.plain {c : Int} {L : List Int} (h : Pl c) (g : EE t L) : EE t (c :: L) := fun n i hA hn => by
  simp only [List.length_cons] at hn ⊢
  obtain ⟨m, rfl⟩ : ∃ m, n = m + 1 := ⟨n - 1, by omega⟩
  obtain ⟨n2, q3, q4⟩ := g m (i + 1) hA.tail (by omega)
  have hb := hA.head
  refine ⟨n2, by omega, ?_⟩
  conv => lhs; unfold eqeF
  rw [if_pos ⟨bt_lt (by rw [hb]; exact h.1), by rw [hb]; exact h.2.2.2, by rw [hb]; exact h.2.2.1⟩]
  unfold en
  rw [if_neg (by rw [hb, h.2.1]; decide), q4]
  congr 1; omega
theorem EE.brk {o c : Int} {L : List Int} (ho : cO o = true) (hc : cX c = true) (g : Bal t L) : EE t (o :: (L ++ [c])) := fun n i hA hn => by
  simp only [List.length_cons, List.length_append, List.length_nil] at hn ⊢
  obtain ⟨m, rfl⟩ : ∃ m, n = m + 1 := ⟨n - 1, by omega⟩
  have hb := hA.head
  have hov := cO_vals ho
  have hox : cX o = false := by rcases hov with h | h | h | h <;> rw [h] <;> decide
  refine ⟨m, by omega, ?_⟩
  conv => lhs; unfold eqeF
  rw [if_pos ⟨bt_lt (by rw [hb]; omega), by rw [hb]; omega, by rw [hb]; exact hox⟩]
  unfold en
  rw [if_pos (by rw [hb]; exact ho), mt_brk ho hc g hA]
  congr 1; omega
theorem ee_all : (∀ z, (fun (e : (TE TF)) => ∀ (x : Nat), e.ok s x → EE t e.rd) z) ∧ (∀ z, (fun (fs : TFs) => ∀ (l : List Nat), (TFs.ok s fs) l → EE t (TFs.rd fs)) z) ∧ (∀ z, (fun (f : TF) => ∀ (p : Nat), f.ok s p → EE t f.rd) z) ∧ (∀ z, (fun (_ : TEs) => True) z) := by
  refine tree_ind ?_ ?_ ?_ ?_ ?_ ?_ ?_ ?_
  · intro d fs ihfs x h
    simp only [TE.ok_mk] at h
    obtain ⟨hd, a, _, h2⟩ := h
    simp only [TE.rd_mk]
    exact EE.plain (pl_dig hd) (ihfs _ h2)
  · intro l h
    simp only [TFs.rd_nil, TFs.rd_cons]; exact EE.nil
  · intro f fs ihf ihfs l h
    simp only [TFs.ok_nil, TFs.ok_cons] at h
    obtain ⟨p, q, _, h1, h2⟩ := h
    simp only [TFs.rd_nil, TFs.rd_cons]
    exact (ihf p h1).app (ihfs q h2)
  · intro c p h
    simp only [TF.ok_lt, TF.ok_nm, TF.ok_br] at h
    obtain ⟨h1, h2⟩ := h
    simp only [TF.rd_lt, TF.rd_nm, TF.rd_br]
    exact EE.plain (pl_let (by rw [h2]; exact h1)) EE.nil
  · intro c e _ p h
    simp only [TF.ok_lt, TF.ok_nm, TF.ok_br] at h
    obtain ⟨h1, h2, h3⟩ := h
    simp only [TF.rd_lt, TF.rd_nm, TF.rd_br]
    exact EE.plain (pl_nam (by rw [h2]; exact h1)) (EE.brk (by decide) (by decide) (TE.bal e _ h3))
  · intro o es _ _ p h
    simp only [TF.ok_lt, TF.ok_nm, TF.ok_br] at h
    obtain ⟨h1, h2, _, h3⟩ := h
    have hc0 : cC o ≠ 0 := by rw [h2]; simpa [cO] using h1
    simp only [TF.rd_lt, TF.rd_nm, TF.rd_br]
    exact EE.brk (by rw [h2]; exact h1) (cX_cC _ hc0) (TEs.balr es _ h3)
  · exact trivial
  · exact fun _ _ _ _ => trivial
theorem TE.ee : ∀ (e : (TE TF)) (x : Nat), e.ok s x → EE t e.rd := ee_all.1
theorem TFs.ee : ∀ (fs : TFs) (l : List Nat), (TFs.ok s fs) l → EE t (TFs.rd fs) := ee_all.2.1
theorem TF.ee : ∀ (f : TF) (p : Nat), f.ok s p → EE t f.rd := ee_all.2.2.1
/-- an element ends behind its bytes -/
theorem elE_at {e : (TE TF)} {x i : Nat} (h : e.ok s x) (hA : At t i e.rd) (hz : i + e.rd.length ≤ t.size) (hx : bt t (i + e.rd.length : Nat) = 44 ∨ cX (bt t (i + e.rd.length : Nat)) = true) : elE t i = i + e.rd.length := by
  obtain ⟨n', q1, q2⟩ := TE.ee (t := t) e x h t.size i hA (by omega)
  unfold elE
  rw [q2]
  cases n' with
  | zero => rfl
  | succ n' =>
    unfold eqeF
    rw [if_neg]
    rintro ⟨_, h1, h2⟩
    rcases hx with hx | hx
    · exact h1 hx
    · rw [hx] at h2; cases h2
/-- a name has its brackets -/
def Nam (t : ByteArray) (j e : Nat) : Prop := bt t (j + 1 : Nat) = 40 ∧ j + 1 < mt t (j + 1) ∧ mt t (j + 1) + 1 ≤ e
theorem Nam.le {j e e' : Nat} (h : Nam t j e) (g : e ≤ e') : Nam t j e' := ⟨h.1, h.2.1, by have := h.2.2; omega⟩
theorem nam_all : (∀ z, (fun (e : (TE TF)) => ∀ (x a i : Nat), e.ok s x → At t a e.rd → a ≤ i → i < a + e.rd.length → cN (bt t i) = true → Nam t i (a + e.rd.length)) z) ∧ (∀ z, (fun (fs : TFs) => ∀ (l : List Nat) (a i : Nat), (TFs.ok s fs) l → At t a (TFs.rd fs) → a ≤ i → i < a + (TFs.rd fs).length → cN (bt t i) = true → Nam t i (a + (TFs.rd fs).length)) z) ∧ (∀ z, (fun (f : TF) => ∀ (p a i : Nat), f.ok s p → At t a f.rd → a ≤ i → i < a + f.rd.length → cN (bt t i) = true → Nam t i (a + f.rd.length)) z) ∧ (∀ z, (fun (es : TEs) => ∀ (x a i : Nat), (TEs.ok s es) x → At t a (TEs.rt es) → a ≤ i → i < a + (TEs.rt es).length → cN (bt t i) = true → Nam t i (a + (TEs.rt es).length)) z) := by
  refine tree_ind ?_ ?_ ?_ ?_ ?_ ?_ ?_ ?_
  · intro d fs ihfs x a i h hA h1 h2 hb
    have hv : 65 ≤ bt t i ∧ bt t i ≤ 90 := by simpa [cN] using hb
    simp only [TE.ok_mk] at h
    obtain ⟨hd, y, _, h3⟩ := h
    simp only [TE.rd_mk, List.length_cons] at hA h2 ⊢
    by_cases e : i = a
    · subst e; have := hA.head; omega
    · exact (ihfs _ (a + 1) i h3 hA.tail (by omega) (by omega) hb).le (by omega)
  · intro l a i h hA h1 h2 hb
    simp [TFs.rd_nil, TFs.rd_cons] at h2; omega
  · intro f fs ihf ihfs l a i h hA h1 h2 hb
    simp only [TFs.ok_nil, TFs.ok_cons] at h
    obtain ⟨p, q, _, h3, h4⟩ := h
    simp only [TFs.rd_nil, TFs.rd_cons, List.length_append] at hA h2 ⊢
    by_cases e : i < a + f.rd.length
    · exact (ihf p a i h3 hA.left h1 e hb).le (by omega)
    · exact (ihfs q (a + f.rd.length) i h4 hA.right (by omega) (by omega) hb).le (by omega)
  · intro c p a i h hA h1 h2 hb
    have hv : 65 ≤ bt t i ∧ bt t i ≤ 90 := by simpa [cN] using hb
    simp only [TF.ok_lt, TF.ok_nm, TF.ok_br] at h
    simp only [TF.rd_lt, TF.rd_nm, TF.rd_br, List.length_cons, List.length_nil] at hA h2
    have e : i = a := by omega
    subst e
    have hw : 97 ≤ bt s p ∧ bt s p ≤ 122 := by simpa [cL] using h.1
    have := hA.head
    omega
  · intro c e ihe p a i h hA h1 h2 hb
    have hv : 65 ≤ bt t i ∧ bt t i ≤ 90 := by simpa [cN] using hb
    simp only [TF.ok_lt, TF.ok_nm, TF.ok_br] at h
    obtain ⟨g1, g2, g3⟩ := h
    have hA0 := hA
    simp only [TF.rd_lt, TF.rd_nm, TF.rd_br, List.length_cons, List.length_append, List.length_nil] at hA h2 ⊢
    have h41 : bt t ((a + 1 + 1 + e.rd.length : Nat) : Int) = 41 := hA.tail.tail.right.head
    have h40 : bt t ((a + 1 : Nat) : Int) = 40 := hA.tail.head
    by_cases e0 : i = a
    · subst e0
      have hm := mt_nm g3 hA
      exact ⟨h40, by omega, by omega⟩
    by_cases e1 : i = a + 1
    · subst e1; omega
    by_cases e2 : i = a + 1 + 1 + e.rd.length
    · subst e2; omega
    exact (ihe _ (a + 1 + 1) i g3 hA.tail.tail.left (by omega) (by omega) hb).le (by omega)
  · intro o es _ ihb p a i h hA h1 h2 hb
    have hv : 65 ≤ bt t i ∧ bt t i ≤ 90 := by simpa [cN] using hb
    simp only [TF.ok_lt, TF.ok_nm, TF.ok_br] at h
    obtain ⟨g1, g2, g5, g3⟩ := h
    simp only [TF.rd_lt, TF.rd_nm, TF.rd_br, List.length_cons, List.length_append, List.length_nil] at hA h2 ⊢
    have hcl : bt t ((a + 1 + (TEs.rd es).length : Nat) : Int) = cC o := hA.tail.right.head
    have hcv := cC_vals o
    have hov := cO_vals g1
    by_cases e0 : i = a
    · subst e0; have := hA.head; omega
    by_cases e2 : i = a + 1 + (TEs.rd es).length
    · subst e2; omega
    have hA2 := hA.tail.left
    have h5 : a + 1 ≤ i := by omega
    have h6 : i < a + 1 + (TEs.rd es).length := by omega
    cases es with
    | nil => simp [TEs.rd_nil, TEs.rd_cons] at h6; omega
    | cons e es =>
      simp only [TEs.ok_nil, TEs.ok_cons] at g3
      simp only [TEs.rd_nil, TEs.rd_cons, List.length_append] at hA2 h6 ⊢
      by_cases e4 : i < a + 1 + e.rd.length
      · exact ((ihb _ _ rfl).1 _ (a + 1) i g3.1 hA2.left h5 e4 hb).le (by omega)
      · exact ((ihb _ _ rfl).2 _ (a + 1 + e.rd.length) i g3.2 hA2.right (by omega) (by omega) hb).le (by omega)
  · intro x a i h hA h1 h2 hb
    simp [TEs.rt_nil, TEs.rt_cons] at h2; omega
  · intro e es ihe ihes x a i h hA h1 h2 hb
    have hv : 65 ≤ bt t i ∧ bt t i ≤ 90 := by simpa [cN] using hb
    simp only [TEs.ok_nil, TEs.ok_cons] at h
    simp only [TEs.rt_nil, TEs.rt_cons, List.length_cons, List.length_append] at hA h2 ⊢
    by_cases e0 : i = a
    · subst e0; have := hA.head; omega
    by_cases e4 : i < a + 1 + e.rd.length
    · exact (ihe _ (a + 1) i h.1 hA.tail.left (by omega) e4 hb).le (by omega)
    · exact (ihes _ (a + 1 + e.rd.length) i h.2 hA.tail.right (by omega) (by omega) hb).le (by omega)
theorem TE.nam : ∀ (e : (TE TF)) (x a i : Nat), e.ok s x → At t a e.rd → a ≤ i → i < a + e.rd.length → cN (bt t i) = true → Nam t i (a + e.rd.length) := nam_all.1
theorem TFs.nam : ∀ (fs : TFs) (l : List Nat) (a i : Nat), (TFs.ok s fs) l → At t a (TFs.rd fs) → a ≤ i → i < a + (TFs.rd fs).length → cN (bt t i) = true → Nam t i (a + (TFs.rd fs).length) := nam_all.2.1
theorem TF.nam : ∀ (f : TF) (p a i : Nat), f.ok s p → At t a f.rd → a ≤ i → i < a + f.rd.length → cN (bt t i) = true → Nam t i (a + f.rd.length) := nam_all.2.2.1
theorem TEs.nam : ∀ (es : TEs) (x a i : Nat), (TEs.ok s es) x → At t a (TEs.rt es) → a ≤ i → i < a + (TEs.rt es).length → cN (bt t i) = true → Nam t i (a + (TEs.rt es).length) := nam_all.2.2.2
end
end Go.Proofs.YtnfaiaoipeholaaGreatDoor
