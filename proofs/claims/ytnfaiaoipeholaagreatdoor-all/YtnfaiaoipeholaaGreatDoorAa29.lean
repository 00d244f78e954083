/- TrA TrB -/
import Derived.Test.YtnfaiaoipeholaaGreatDoorAa28
namespace Go.Proofs.YtnfaiaoipeholaaGreatDoor
set_option linter.unusedSimpArgs false
set_option linter.unusedVariables false
/-- a tree of an expression: its number, its factors -/
structure TE (α : Type) where
  d : Nat
  fs : List α
/-- a factor: a letter, a name with its tree, a bracket with its elements -/
structure TF where
  c : Int
  b : Option (Sum (TE TF) (List (TE TF)))
/-- factors -/
abbrev TFs := List TF
/-- elements -/
abbrev TEs := List (TE TF)
abbrev TF.lt (c : Int) : TF := ⟨c, none⟩
abbrev TF.nm (c : Int) (e : TE TF) : TF := ⟨c, some (.inl e)⟩
abbrev TF.br (o : Int) (es : TEs) : TF := ⟨o, some (.inr es)⟩
/-- a part of a tree -/
abbrev Nd := Sum (Sum (TE TF) TFs) (Sum TF TEs)
structure Alg (R : Type) where
  e : Nat → TFs → R → R
  n0 : R
  n1 : TF → TFs → R → R → R
  lt : Int → R
  nm : Int → TE TF → R → R
  br : Int → TEs → R → R
  g0 : R
  g1 : TE TF → TEs → R → R → R
def para {R : Type} (A : Alg R) : Nd → R
  | .inl (.inl ⟨d, fs⟩) => A.e d fs (para A (.inl (.inr fs)))
  | .inl (.inr []) => A.n0
  | .inl (.inr (f :: fs)) => A.n1 f fs (para A (.inr (.inl f))) (para A (.inl (.inr fs)))
  | .inr (.inl ⟨c, none⟩) => A.lt c
  | .inr (.inl ⟨c, some (.inl e)⟩) => A.nm c e (para A (.inl (.inl e)))
  | .inr (.inl ⟨o, some (.inr es)⟩) => A.br o es (para A (.inr (.inr es)))
  | .inr (.inr []) => A.g0
  | .inr (.inr (e :: es)) => A.g1 e es (para A (.inl (.inl e))) (para A (.inr (.inr es)))
section
variable {R : Type} (A : Alg R)
theorem para_e (d fs) : para A (.inl (.inl ⟨d, fs⟩)) = A.e d fs (para A (.inl (.inr fs))) := by conv => lhs; unfold para
theorem para_n0 : para A (.inl (.inr [])) = A.n0 := by conv => lhs; unfold para
theorem para_n1 (f fs) : para A (.inl (.inr (f :: fs))) = A.n1 f fs (para A (.inr (.inl f))) (para A (.inl (.inr fs))) := by conv => lhs; unfold para
theorem para_lt (c) : para A (.inr (.inl (TF.lt c))) = A.lt c := by conv => lhs; unfold para
theorem para_nm (c e) : para A (.inr (.inl (TF.nm c e))) = A.nm c e (para A (.inl (.inl e))) := by conv => lhs; unfold para
theorem para_br (o es) : para A (.inr (.inl (TF.br o es))) = A.br o es (para A (.inr (.inr es))) := by conv => lhs; unfold para
theorem para_g0 : para A (.inr (.inr [])) = A.g0 := by conv => lhs; unfold para
theorem para_g1 (e es) : para A (.inr (.inr (e :: es))) = A.g1 e es (para A (.inl (.inl e))) (para A (.inr (.inr es))) := by conv => lhs; unfold para
end
/-- what holds of a part, by its kind -/
def NdP (PE : TE TF → Prop) (PFs : TFs → Prop) (PF : TF → Prop) (PEs : TEs → Prop) : Nd → Prop
  | .inl (.inl e) => PE e
  | .inl (.inr fs) => PFs fs
  | .inr (.inl f) => PF f
  | .inr (.inr es) => PEs es
section
variable {PE : TE TF → Prop} {PFs : TFs → Prop} {PF : TF → Prop} {PEs : TEs → Prop}
theorem nd_ind (hE : ∀ d fs, PFs fs → PE ⟨d, fs⟩) (n0 : PFs []) (n1 : ∀ f fs, PF f → PFs fs → PFs (f :: fs)) (l : ∀ c, PF (TF.lt c)) (nm : ∀ c e, PE e → PF (TF.nm c e))
    (br : ∀ o es, PEs es → (∀ e es', es = e :: es' → PE e ∧ PEs es') → PF (TF.br o es)) (g0 : PEs []) (g1 : ∀ e es, PE e → PEs es → PEs (e :: es)) : ∀ z : Nd, NdP PE PFs PF PEs z
  | .inl (.inl ⟨d, fs⟩) => hE d fs (nd_ind hE n0 n1 l nm br g0 g1 (.inl (.inr fs)))
  | .inl (.inr []) => n0
  | .inl (.inr (f :: fs)) => n1 f fs (nd_ind hE n0 n1 l nm br g0 g1 (.inr (.inl f))) (nd_ind hE n0 n1 l nm br g0 g1 (.inl (.inr fs)))
  | .inr (.inl ⟨c, none⟩) => l c
  | .inr (.inl ⟨c, some (.inl e)⟩) => nm c e (nd_ind hE n0 n1 l nm br g0 g1 (.inl (.inl e)))
  | .inr (.inl ⟨o, some (.inr [])⟩) => br o [] g0 (fun _ _ h => by cases h)
  | .inr (.inl ⟨o, some (.inr (e :: es))⟩) =>
    have h1 : PE e := nd_ind hE n0 n1 l nm br g0 g1 (.inl (.inl e))
    have h2 : PEs es := nd_ind hE n0 n1 l nm br g0 g1 (.inr (.inr es))
    br o (e :: es) (g1 e es h1 h2) (fun _ _ h => by cases h; exact ⟨h1, h2⟩)
  | .inr (.inr []) => g0
  | .inr (.inr (e :: es)) => g1 e es (nd_ind hE n0 n1 l nm br g0 g1 (.inl (.inl e))) (nd_ind hE n0 n1 l nm br g0 g1 (.inr (.inr es)))
/-- all parts at once -/
theorem tree_ind (hE : ∀ d fs, PFs fs → PE ⟨d, fs⟩) (n0 : PFs []) (n1 : ∀ f fs, PF f → PFs fs → PFs (f :: fs)) (l : ∀ c, PF (TF.lt c)) (nm : ∀ c e, PE e → PF (TF.nm c e))
    (br : ∀ o es, PEs es → (∀ e es', es = e :: es' → PE e ∧ PEs es') → PF (TF.br o es)) (g0 : PEs []) (g1 : ∀ e es, PE e → PEs es → PEs (e :: es)) : (∀ e, PE e) ∧ (∀ fs, PFs fs) ∧ (∀ f, PF f) ∧ (∀ es, PEs es) :=
  ⟨fun e => nd_ind hE n0 n1 l nm br g0 g1 (.inl (.inl e)), fun fs => nd_ind hE n0 n1 l nm br g0 g1 (.inl (.inr fs)), fun f => nd_ind hE n0 n1 l nm br g0 g1 (.inr (.inl f)), fun es => nd_ind hE n0 n1 l nm br g0 g1 (.inr (.inr es))⟩
end
def TEs.len : TEs → Nat
  | .nil => 0
  | .cons _ es => (TEs.len es) + 1
def rdA : Alg (List Int × List Int) where
  e d _ r := ((48 + (d : Int)) :: r.1, [])
  n0 := ([], [])
  n1 _ _ r q := (r.1 ++ q.1, [])
  lt c := ([c], [])
  nm c _ r := (c :: 40 :: (r.1 ++ [41]), [])
  br o _ r := (o :: (r.1 ++ [cC o]), [])
  g0 := ([], [])
  g1 _ _ r q := (r.1 ++ q.2, 44 :: (r.1 ++ q.2))
/-- as it is written -/
def TE.rd (e : (TE TF)) : List Int := (para rdA (.inl (.inl e))).1
def TFs.rd (fs : TFs) : List Int := (para rdA (.inl (.inr fs))).1
def TF.rd (f : TF) : List Int := (para rdA (.inr (.inl f))).1
def TEs.rd (es : TEs) : List Int := (para rdA (.inr (.inr es))).1
/-- further elements -/
def TEs.rt (es : TEs) : List Int := (para rdA (.inr (.inr es))).2
theorem TE.rd_mk (d : Nat) (fs : TFs) : TE.rd ⟨d, fs⟩ = (48 + (d : Int)) :: TFs.rd fs := by unfold TE.rd TFs.rd; rw [para_e]; rfl
theorem TFs.rd_nil : TFs.rd [] = [] := by unfold TFs.rd; rw [para_n0]; rfl
theorem TFs.rd_cons (f : TF) (fs : TFs) : TFs.rd (f :: fs) = f.rd ++ TFs.rd fs := by unfold TFs.rd TF.rd; rw [para_n1]; rfl
theorem TF.rd_lt (c : Int) : (TF.lt c).rd = [c] := by unfold TF.rd; rw [para_lt]; rfl
theorem TF.rd_nm (c : Int) (e : (TE TF)) : (TF.nm c e).rd = c :: 40 :: (e.rd ++ [41]) := by unfold TF.rd TE.rd; rw [para_nm]; rfl
theorem TF.rd_br (o : Int) (es : TEs) : (TF.br o es).rd = o :: (TEs.rd es ++ [cC o]) := by unfold TF.rd TEs.rd; rw [para_br]; rfl
theorem TEs.rd_nil : TEs.rd [] = [] := by unfold TEs.rd; rw [para_g0]; rfl
theorem TEs.rd_cons (e : (TE TF)) (es : TEs) : TEs.rd (e :: es) = e.rd ++ TEs.rt es := by unfold TEs.rd TE.rd TEs.rt; rw [para_g1]; rfl
theorem TEs.rt_nil : TEs.rt [] = [] := by unfold TEs.rt; rw [para_g0]; rfl
theorem TEs.rt_cons (e : (TE TF)) (es : TEs) : TEs.rt (e :: es) = 44 :: (e.rd ++ TEs.rt es) := by unfold TEs.rt TE.rd; rw [para_g1]; rfl
def htA : Alg Nat where
  e _ _ r := r
  n0 := 0
  n1 _ _ r q := max r q
  lt _ := 0
  nm _ _ r := r + 1
  br _ _ r := r
  g0 := 0
  g1 _ _ r q := max r q
/-- how many names stand around one another -/
def TE.ht (e : (TE TF)) : Nat := (para htA (.inl (.inl e)))
def TFs.ht (fs : TFs) : Nat := (para htA (.inl (.inr fs)))
def TF.ht (f : TF) : Nat := (para htA (.inr (.inl f)))
def TEs.ht (es : TEs) : Nat := (para htA (.inr (.inr es)))
theorem TE.ht_mk (d : Nat) (fs : TFs) : TE.ht ⟨d, fs⟩ = TFs.ht fs := by unfold TE.ht TFs.ht; rw [para_e]; rfl
theorem TFs.ht_nil : TFs.ht [] = 0 := by unfold TFs.ht; rw [para_n0]; rfl
theorem TFs.ht_cons (f : TF) (fs : TFs) : TFs.ht (f :: fs) = max f.ht (TFs.ht fs) := by unfold TFs.ht TF.ht; rw [para_n1]; rfl
theorem TF.ht_lt (c_ : Int) : TF.ht (TF.lt c_) = 0 := by unfold TF.ht; rw [para_lt]; rfl
theorem TF.ht_nm (c_ : Int) (e : (TE TF)) : TF.ht (TF.nm c_ e) = e.ht + 1 := by unfold TF.ht TE.ht; rw [para_nm]; rfl
theorem TF.ht_br (o : Int) (es : TEs) : TF.ht (TF.br o es) = TEs.ht es := by unfold TF.ht TEs.ht; rw [para_br]; rfl
theorem TEs.ht_nil : TEs.ht [] = 0 := by unfold TEs.ht; rw [para_g0]; rfl
theorem TEs.ht_cons (e : (TE TF)) (es : TEs) : TEs.ht (e :: es) = max e.ht (TEs.ht es) := by unfold TEs.ht TE.ht; rw [para_g1]; rfl
/-- how many elements a bracket may have -/
def okN (o : Int) (n : Nat) : Prop := (o = 40 → n = 1) ∧ (o = 91 → n ≤ 1) ∧ (o = 60 → 1 ≤ n)
def okA (s : ByteArray) : Alg ((Nat → Prop) × (List Nat → Prop)) where
  e d _ r := (fun x => d ≤ 9 ∧ ∃ a, ap s d x = some a ∧ r.2 (fe s a).1, fun _ => True)
  n0 := (fun _ => True, fun l => l = [])
  n1 _ _ r z := (fun _ => True, fun l => ∃ p q, l = p :: q ∧ r.1 p ∧ z.2 q)
  lt c := (fun p => cL (bt s p) = true ∧ c = bt s p, fun _ => True)
  nm c _ r := (fun p => cN (bt s p) = true ∧ c = bt s p ∧ r.1 (rl s (bt s p) + 2).toNat, fun _ => True)
  br o es r := (fun p => cO (bt s p) = true ∧ o = bt s p ∧ okN o (TEs.len es) ∧ r.1 (p + 1), fun _ => True)
  g0 := (fun _ => True, fun _ => True)
  g1 _ _ r q := (fun x => r.1 x ∧ q.1 x, fun _ => True)
/-- a tree of the expression that begins here -/
def TE.ok (s : ByteArray) (e : (TE TF)) : Nat → Prop := (para (okA s) (.inl (.inl e))).1
def TFs.ok (s : ByteArray) (fs : TFs) : List Nat → Prop := (para (okA s) (.inl (.inr fs))).2
def TF.ok (s : ByteArray) (f : TF) : Nat → Prop := (para (okA s) (.inr (.inl f))).1
def TEs.ok (s : ByteArray) (es : TEs) : Nat → Prop := (para (okA s) (.inr (.inr es))).1
theorem TE.ok_mk (s : ByteArray) (d : Nat) (fs : TFs) (x : Nat) : TE.ok s ⟨d, fs⟩ x = (d ≤ 9 ∧ ∃ a, ap s d x = some a ∧ TFs.ok s fs (fe s a).1) := by unfold TE.ok TFs.ok; rw [para_e]; rfl
theorem TFs.ok_nil (s : ByteArray) (l : List Nat) : TFs.ok s [] l = (l = []) := by unfold TFs.ok; rw [para_n0]; rfl
theorem TFs.ok_cons (s : ByteArray) (f : TF) (fs : TFs) (l : List Nat) : TFs.ok s (f :: fs) l = ∃ p q, l = p :: q ∧ f.ok s p ∧ TFs.ok s fs q := by unfold TFs.ok TF.ok; rw [para_n1]; rfl
theorem TF.ok_lt (s : ByteArray) (c : Int) (p : Nat) : (TF.lt c).ok s p = (cL (bt s p) = true ∧ c = bt s p) := by unfold TF.ok; rw [para_lt]; rfl
theorem TF.ok_nm (s : ByteArray) (c : Int) (e : (TE TF)) (p : Nat) : (TF.nm c e).ok s p = (cN (bt s p) = true ∧ c = bt s p ∧ e.ok s (rl s (bt s p) + 2).toNat) := by unfold TF.ok TE.ok; rw [para_nm]; rfl
theorem TF.ok_br (s : ByteArray) (o : Int) (es : TEs) (p : Nat) : (TF.br o es).ok s p = (cO (bt s p) = true ∧ o = bt s p ∧ okN o (TEs.len es) ∧ TEs.ok s es (p + 1)) := by unfold TF.ok TEs.ok; rw [para_br]; rfl
theorem TEs.ok_nil (s : ByteArray) (x : Nat) : TEs.ok s [] x = True := by unfold TEs.ok; rw [para_g0]; rfl
theorem TEs.ok_cons (s : ByteArray) (e : (TE TF)) (es : TEs) (x : Nat) : TEs.ok s (e :: es) x = (e.ok s x ∧ TEs.ok s es x) := by unfold TEs.ok TE.ok; rw [para_g1]; rfl
section
variable {s t : ByteArray}
theorem TE.rd_pos : ∀ e : (TE TF), 1 ≤ e.rd.length
  | .mk d fs => by simp [TE.rd_mk]
set_option maxHeartbeats 4000000 in
theorem read_all : (∀ z, (fun (e : (TE TF)) => ∀ (n : Nat), ∀ (x i : Nat), e.ok s x → At t i e.rd → e.rd.length ≤ n → pE s t 0 n x i = some (i + e.rd.length, e.ht)) z) ∧ (∀ z, (fun (fs : TFs) => ∀ (n : Nat), ∀ (l : List Nat) (i top : Nat), (∀ f ∈ l, isF s f = true) → (TFs.ok s fs) l → At t i (TFs.rd fs) → (TFs.rd fs).length ≤ n → pFs (pF s t 0 (pE s t 0 n)) l i top = some (i + (TFs.rd fs).length, max top (TFs.ht fs))) z) ∧ (∀ z, (fun (f : TF) => ∀ (n : Nat), ∀ (p i : Nat), isF s p = true → f.ok s p → At t i f.rd → f.rd.length ≤ n → pF s t 0 (pE s t 0 n) p i = some (i + f.rd.length, f.ht)) z) ∧ (∀ z, (fun (es : TEs) => ∀ (n : Nat), ∀ (e : (TE TF)) (hE : ∀ (n x i : Nat), e.ok s x → At t i e.rd → e.rd.length ≤ n → pE s t 0 n x i = some (i + e.rd.length, e.ht)) (x : Nat) (many : Bool) (c : Int) (i m top : Nat) (cnt : Int), cX c = true → e.ok s x → (TEs.ok s es) x → ((TEs.len es) = 0 ∨ many = true) → At t i (e.rd ++ (TEs.rt es) ++ [c]) → e.rd.length + (TEs.rt es).length ≤ n → t.size - i ≤ m → pEl t (pE s t 0 n x) c many 0 m i top cnt = some (i + e.rd.length + (TEs.rt es).length + 1, max top (max e.ht (TEs.ht es)))) z) := by
  refine tree_ind ?_ ?_ ?_ ?_ ?_ ?_ ?_ ?_
  · intro d fs ihfs n x i hv hA hn
    simp only [TE.ok_mk] at hv
    obtain ⟨hd, a, ha, hf⟩ := hv
    simp only [TE.rd_mk, List.length_cons] at hA hn ⊢
    obtain ⟨n', rfl⟩ : ∃ n', n = n' + 1 := ⟨n - 1, by omega⟩
    have hb : bt t i = 48 + (d : Int) := hA.head
    unfold pE
    rw [if_pos (by rw [hb]; simp [cD]; omega), hb, show (48 + (d : Int) - 48).toNat = d by omega, ha]
    simp only
    have := ihfs n' (fe s a).1 (i + 1) 0 (fun f hf => (fe_mem hf).1) hf hA.tail (by omega)
    rw [this]
    simp only [TE.ht_mk]
    congr 2
    · omega
  · intro n l i top hl hv hA hn
    simp only [TFs.ok_nil, TFs.ok_cons] at hv
    subst hv
    simp [pFs, TFs.rd_nil, TFs.rd_cons, TFs.ht_nil, TFs.ht_cons]
  · intro f fs ihf ihfs n l i top hl hv hA hn
    simp only [TFs.ok_nil, TFs.ok_cons] at hv
    obtain ⟨p, q, rfl, h1, h2⟩ := hv
    simp only [TFs.rd_nil, TFs.rd_cons, List.length_append] at hA hn ⊢
    have r1 := ihf n p i (hl p (by simp)) h1 hA.left (by omega)
    have r2 := ihfs n q (i + f.rd.length) (max top f.ht) (fun f' hf => hl f' (by simp [hf])) h2 hA.right (by omega)
    unfold pFs
    rw [r1]
    simp only
    rw [r2]
    simp only [TFs.ht_nil, TFs.ht_cons]
    congr 2
    · omega
    · omega
  · intro c n p i hp hv hA hn
    simp only [TF.ok_lt, TF.ok_nm, TF.ok_br] at hv
    obtain ⟨h1, h2⟩ := hv
    simp only [TF.rd_lt, TF.rd_nm, TF.rd_br] at hA
    unfold pF
    rw [if_neg (by have := hA.head; omega), if_pos h1]
    simp [TF.rd_lt, TF.rd_nm, TF.rd_br, TF.ht_lt, TF.ht_nm, TF.ht_br]
  · intro c e ihe n p i hp hv hA hn
    simp only [TF.ok_lt, TF.ok_nm, TF.ok_br] at hv
    obtain ⟨h1, h2, h3⟩ := hv
    simp only [TF.rd_lt, TF.rd_nm, TF.rd_br, List.length_cons, List.length_append, List.length_nil] at hA hn ⊢
    have hl : ¬ cL (bt s p) = true := by
      have hv : 65 ≤ bt s p ∧ bt s p ≤ 90 := by simpa [cN] using h1
      simp [cL]; omega
    have r := ihe n _ (i + 1 + 1) h3 hA.tail.tail.left (by omega)
    have h40 : bt t ((i + 1 : Nat) : Int) = 40 := hA.tail.head
    have h41 : bt t ((i + 1 + 1 + e.rd.length : Nat) : Int) = 41 := hA.tail.tail.right.head
    unfold pF
    rw [if_neg (by have := hA.head; omega), if_neg hl, if_pos h1]
    unfold pN
    rw [if_neg (by omega), r]
    simp only
    rw [if_pos h41]
    simp only [TF.ht_lt, TF.ht_nm, TF.ht_br]
    congr 2; omega
  · intro o es _ ihb n p i hp hv hA hn
    simp only [TF.ok_lt, TF.ok_nm, TF.ok_br] at hv
    obtain ⟨h1, h2, h3, h4⟩ := hv
    simp only [TF.rd_lt, TF.rd_nm, TF.rd_br, List.length_cons, List.length_append, List.length_nil] at hA hn ⊢
    have hov := cO_vals h1
    have hl : ¬ cL (bt s p) = true := by simp [cL]; omega
    have hnn : ¬ cN (bt s p) = true := by simp [cN]; omega
    have hc0 : cC (bt s p) ≠ 0 := by simpa [cO] using h1
    have hb0 : bt t i = o := hA.head
    unfold pF
    rw [if_neg (by omega), if_neg hl, if_neg hnn]
    unfold pB
    cases es with
    | nil =>
      simp only [TEs.rd_nil, TEs.rd_cons, List.length_nil, List.nil_append, TEs.len] at hA h3 ⊢
      have hcl : bt t ((i + 1 : Nat) : Int) = cC o := hA.tail.head
      obtain ⟨o1, o2, o3⟩ := h3
      rw [if_pos ⟨by rw [hcl, h2], by
        rcases hov with h | h | h | h
        · have := o1 (by rw [h2, h]); omega
        · exact .inl h
        · exact .inr h
        · have := o3 (by rw [h2, h]); omega⟩]
      simp [TF.ht_lt, TF.ht_nm, TF.ht_br, TEs.ht_nil, TEs.ht_cons]
    | cons e es =>
      simp only [TEs.rd_nil, TEs.rd_cons] at hA hn ⊢
      have hA2 := hA.tail
      have hdig : cD (bt t ((i + 1 : Nat) : Int)) = true := by
        cases e with
        | mk d fs =>
          simp only [TEs.ok_nil, TEs.ok_cons, TE.ok_mk] at h4
          simp only [TE.rd_mk] at hA2
          have : bt t ((i + 1 : Nat) : Int) = 48 + (d : Int) := hA2.head
          rw [this]; simp [cD]; omega
      rw [if_neg (fun hh => by
        have h5 : 48 ≤ bt t ((i + 1 : Nat) : Int) ∧ bt t ((i + 1 : Nat) : Int) ≤ 57 := by simpa [cD] using hdig
        have := cC_vals (bt s p)
        omega)]
      have hm : (TEs.len es) = 0 ∨ decide (bt s p = 123 ∨ bt s p = 60) = true := by
        simp only [TEs.len] at h3
        obtain ⟨o1, o2, o3⟩ := h3
        rcases hov with h | h | h | h
        · left; have := o1 (by rw [h2, h]); omega
        · left; have := o2 (by rw [h2, h]); omega
        · right; simp [h]
        · right; simp [h]
      simp only [TEs.ok_nil, TEs.ok_cons] at h4
      have h6 : At t (i + 1) (e.rd ++ (TEs.rt es) ++ [cC (bt s p)]) := by rw [← h2]; exact hA2
      have hlen : (e.rd ++ (TEs.rt es)).length = e.rd.length + (TEs.rt es).length := by simp
      have r := (ihb _ _ rfl).2 n e (ihb _ _ rfl).1 (p + 1) (decide (bt s p = 123 ∨ bt s p = 60)) (cC (bt s p)) (i + 1) (t.size - (i + 1)) 0 0 (cX_cC _ hc0) h4.1 h4.2 hm h6 (by omega) (Nat.le_refl _)
      rw [r]
      simp only [TF.ht_lt, TF.ht_nm, TF.ht_br, TEs.ht_nil, TEs.ht_cons]
      rw [hlen]
      congr 2
      · omega
  · intro n e hE x many c i m top cnt hc h1 h2 h3 hA hn hm
    simp only [TEs.rt_nil, TEs.rt_cons, List.append_nil, List.length_nil] at hA hn ⊢
    have r := hE n x i h1 hA.left (by omega)
    have hb : bt t (i + e.rd.length : Nat) = c := hA.right.head
    have := bt_lt (s := t) (p := i + e.rd.length) (by rw [hb]; intro h0; rw [h0] at hc; exact absurd hc (by decide))
    obtain ⟨m', rfl⟩ : ∃ m', m = m' + 1 := ⟨m - 1, by omega⟩
    unfold pEl
    rw [r]
    simp only
    rw [if_neg (by omega), if_pos hb]
    simp [TEs.ht_nil, TEs.ht_cons]
  · intro e2 es ihe ihes n e hE x many c i m top cnt hc h1 h2 h3 hA hn hm
    have hmany : many = true := by
      rcases h3 with h | h
      · simp [TEs.len] at h
      · exact h
    simp only [TEs.ok_nil, TEs.ok_cons] at h2
    simp only [TEs.rt_nil, TEs.rt_cons, List.length_cons, List.length_append] at hA hn ⊢
    have hA' : At t i (e.rd ++ (44 :: (e2.rd ++ (TEs.rt es) ++ [c]))) := by simpa using hA
    have r := hE n x i h1 hA'.left (by omega)
    have hb : bt t (i + e.rd.length : Nat) = 44 := hA'.right.head
    have hne : c ≠ 44 := by intro h0; rw [h0] at hc; exact absurd hc (by decide)
    have := bt_lt (s := t) (p := i + e.rd.length) (by rw [hb]; omega)
    have hpos := TE.rd_pos e
    obtain ⟨m', rfl⟩ : ∃ m', m = m' + 1 := ⟨m - 1, by omega⟩
    have r2 := ihes n e2 ihe x many c (i + e.rd.length + 1) m' (max top e.ht) (cnt + 1) hc h2.1 h2.2 (.inr hmany) hA'.right.tail (by omega) (by omega)
    unfold pEl
    rw [r]
    simp only
    rw [if_neg (by omega), if_neg (by omega), if_pos ⟨hb, hmany⟩, r2]
    simp only [TEs.ht_nil, TEs.ht_cons]
    congr 2
    · omega
    · omega
theorem TE.read (n : Nat) : ∀ (e : (TE TF)) (x i : Nat), e.ok s x → At t i e.rd → e.rd.length ≤ n → pE s t 0 n x i = some (i + e.rd.length, e.ht) := fun e => read_all.1 e n
theorem TFs.read (n : Nat) : ∀ (fs : TFs) (l : List Nat) (i top : Nat), (∀ f ∈ l, isF s f = true) → (TFs.ok s fs) l → At t i (TFs.rd fs) → (TFs.rd fs).length ≤ n → pFs (pF s t 0 (pE s t 0 n)) l i top = some (i + (TFs.rd fs).length, max top (TFs.ht fs)) := fun fs => read_all.2.1 fs n
theorem TF.read (n : Nat) : ∀ (f : TF) (p i : Nat), isF s p = true → f.ok s p → At t i f.rd → f.rd.length ≤ n → pF s t 0 (pE s t 0 n) p i = some (i + f.rd.length, f.ht) := fun f => read_all.2.2.1 f n
theorem TEs.read (n : Nat) : ∀ (es : TEs) (e : (TE TF)) (hE : ∀ (n x i : Nat), e.ok s x → At t i e.rd → e.rd.length ≤ n → pE s t 0 n x i = some (i + e.rd.length, e.ht)) (x : Nat) (many : Bool) (c : Int) (i m top : Nat) (cnt : Int), cX c = true → e.ok s x → (TEs.ok s es) x → ((TEs.len es) = 0 ∨ many = true) → At t i (e.rd ++ (TEs.rt es) ++ [c]) → e.rd.length + (TEs.rt es).length ≤ n → t.size - i ≤ m → pEl t (pE s t 0 n x) c many 0 m i top cnt = some (i + e.rd.length + (TEs.rt es).length + 1, max top (max e.ht (TEs.ht es))) := fun es => read_all.2.2.2 es n
end
end Go.Proofs.YtnfaiaoipeholaaGreatDoor

namespace Go.Proofs.YtnfaiaoipeholaaGreatDoor
set_option linter.unusedSimpArgs false
set_option linter.unusedVariables false
section
variable {s t : ByteArray}
theorem At.cons {i : Nat} {x : Int} {L : List Int} (h : bt t i = x) (g : At t (i + 1) L) : At t i (x :: L) := fun k hk => by
  cases k with
  | zero => simpa using h
  | succ k =>
    have := g k (by simpa using hk)
    rw [show i + (k + 1) = i + 1 + k by omega, this]; rfl
theorem At.nil (i : Nat) : At t i [] := fun k hk => by simp at hk
theorem At.app {i : Nat} {A B : List Int} (h : At t i A) (g : At t (i + A.length) B) : At t i (A ++ B) := fun k hk => by
  by_cases e : k < A.length
  · rw [h k e, List.getElem_append_left e]
  · have := g (k - A.length) (by simp at hk; omega)
    rw [show i + k = i + A.length + (k - A.length) by omega, this, List.getElem_append_right (by omega)]
/-- an expression that is read is a tree -/
def IsE (s t : ByteArray) (n : Nat) : Prop := ∀ x i j h, pE s t 0 n x i = some (j, h) → ∃ e : (TE TF), e.ok s x ∧ e.ht = h ∧ At t i e.rd ∧ j = i + e.rd.length
theorem pEl_tree {n x : Nat} {c : Int} {many : Bool} (ih : IsE s t n) :
    ∀ m i top cnt j h, pEl t (pE s t 0 n x) c many 0 m i top cnt = some (j, h) → ∃ (e : (TE TF)) (es : TEs), e.ok s x ∧ (TEs.ok s es) x ∧ ((TEs.len es) = 0 ∨ many = true) ∧ At t i (e.rd ++ (TEs.rt es) ++ [c]) ∧ j = i + e.rd.length + (TEs.rt es).length + 1 ∧ h = max top (max e.ht (TEs.ht es))
  | 0, i, top, cnt, j, h, e => by cases e
  | m + 1, i, top, cnt, j, h, e => by
    unfold pEl at e
    cases hq : pE s t 0 n x i with
    | none => rw [hq] at e; cases e
    | some q =>
      obtain ⟨k, h1⟩ := q
      rw [hq] at e
      simp only at e
      obtain ⟨e1, o1, o2, o3, o4⟩ := ih x i k h1 hq
      split at e
      · cases e
      split at e
      · rename_i hb
        simp only [Option.some.injEq, Prod.mk.injEq] at e
        refine ⟨e1, .nil, o1, by simp [TEs.ok_nil, TEs.ok_cons], .inl rfl, ?_, by simp [TEs.rt_nil, TEs.rt_cons]; omega, by simp [TEs.ht_nil, TEs.ht_cons]; omega⟩
        simp only [TEs.rt_nil, TEs.rt_cons, List.append_nil]
        exact o3.app (At.cons (by rw [← o4]; exact hb) (At.nil _))
      split at e
      · rename_i hb
        obtain ⟨e2, es, p1, p2, p3, p4, p5, p6⟩ := pEl_tree ih m (k + 1) (max top h1) (cnt + 1) j h e
        refine ⟨e1, .cons e2 es, o1, ?_, .inr hb.2, ?_, ?_, ?_⟩
        · simp only [TEs.ok_nil, TEs.ok_cons]; exact ⟨p1, p2⟩
        · have : At t i (e1.rd ++ (44 :: (e2.rd ++ (TEs.rt es) ++ [c]))) := o3.app (At.cons (by rw [← o4]; exact hb.1) (by rw [← o4]; exact p4))
          simpa [TEs.rt_nil, TEs.rt_cons] using this
        · simp only [TEs.rt_nil, TEs.rt_cons, List.length_cons, List.length_append]; omega
        · simp only [TEs.ht_nil, TEs.ht_cons]; omega
      · cases e
theorem pF_tree {n : Nat} (ih : IsE s t n) {p i j h : Nat} (hp : isF s p = true) (e : pF s t 0 (pE s t 0 n) p i = some (j, h)) : ∃ f : TF, f.ok s p ∧ f.ht = h ∧ At t i f.rd ∧ j = i + f.rd.length := by
  unfold pF at e
  split at e
  · cases e
  rename_i hb
  have hb' : bt t i = bt s p := by simpa using hb
  split at e
  · rename_i hl
    simp only [Option.some.injEq, Prod.mk.injEq] at e
    exact ⟨.lt (bt s p), by simp only [TF.ok_lt, TF.ok_nm, TF.ok_br]; exact ⟨hl, trivial⟩, by simp [TF.ht_lt, TF.ht_nm, TF.ht_br]; omega, by simp only [TF.rd_lt, TF.rd_nm, TF.rd_br]; exact At.cons hb' (At.nil _), by simp [TF.rd_lt, TF.rd_nm, TF.rd_br]; omega⟩
  rename_i hl
  split at e
  · rename_i hn
    unfold pN at e
    split at e
    · cases e
    rename_i h40
    cases hq : pE s t 0 n (rl s (bt s p) + 2).toNat (i + 1 + 1) with
    | none => rw [hq] at e; cases e
    | some q =>
      obtain ⟨k, h1⟩ := q
      rw [hq] at e
      simp only at e
      obtain ⟨e1, o1, o2, o3, o4⟩ := ih _ _ _ _ hq
      split at e
      · rename_i h41
        simp only [Option.some.injEq, Prod.mk.injEq] at e
        refine ⟨.nm (bt s p) e1, by simp only [TF.ok_lt, TF.ok_nm, TF.ok_br]; exact ⟨hn, trivial, o1⟩, by simp only [TF.ht_lt, TF.ht_nm, TF.ht_br]; omega, ?_, by simp [TF.rd_lt, TF.rd_nm, TF.rd_br]; omega⟩
        simp only [TF.rd_lt, TF.rd_nm, TF.rd_br]
        exact At.cons hb' (At.cons (by simpa using h40) (o3.app (At.cons (by rw [← o4]; exact h41) (At.nil _))))
      · cases e
  · rename_i hn
    have hc0 := isF_cC hp (by simpa using hl) (by simpa using hn)
    have ho : cO (bt s p) = true := by simp [cO, hc0]
    have hov := cO_vals ho
    unfold pB at e
    split at e
    · rename_i hc
      simp only [Option.some.injEq, Prod.mk.injEq] at e
      refine ⟨.br (bt s p) .nil, ?_, by simp [TF.ht_lt, TF.ht_nm, TF.ht_br, TEs.ht_nil, TEs.ht_cons]; omega, ?_, by simp [TF.rd_lt, TF.rd_nm, TF.rd_br, TEs.rd_nil, TEs.rd_cons]; omega⟩
      · simp only [TF.ok_lt, TF.ok_nm, TF.ok_br, TEs.len, TEs.ok_nil, TEs.ok_cons]
        exact ⟨ho, trivial, ⟨fun h => by omega, fun _ => by omega, fun h => by omega⟩, trivial⟩
      · simp only [TF.rd_lt, TF.rd_nm, TF.rd_br, TEs.rd_nil, TEs.rd_cons, List.nil_append]
        exact At.cons hb' (At.cons hc.1 (At.nil _))
    · obtain ⟨e1, es, p1, p2, p3, p4, p5, p6⟩ := pEl_tree ih _ _ _ _ _ _ e
      refine ⟨.br (bt s p) (.cons e1 es), ?_, by simp only [TF.ht_lt, TF.ht_nm, TF.ht_br, TEs.ht_nil, TEs.ht_cons]; omega, ?_, ?_⟩
      · simp only [TF.ok_lt, TF.ok_nm, TF.ok_br, TEs.len, TEs.ok_nil, TEs.ok_cons]
        refine ⟨ho, trivial, ⟨fun h => ?_, fun h => ?_, fun _ => by omega⟩, p1, p2⟩
        · rcases p3 with p3 | p3
          · omega
          · simp at p3; omega
        · rcases p3 with p3 | p3
          · omega
          · simp at p3; omega
      · simp only [TF.rd_lt, TF.rd_nm, TF.rd_br, TEs.rd_nil, TEs.rd_cons]
        exact At.cons hb' p4
      · simp only [TF.rd_lt, TF.rd_nm, TF.rd_br, TEs.rd_nil, TEs.rd_cons, List.length_cons, List.length_append, List.length_nil]; omega
theorem pFs_tree {n : Nat} (ih : IsE s t n) : ∀ (l : List Nat) (i top j h : Nat), (∀ f ∈ l, isF s f = true) → pFs (pF s t 0 (pE s t 0 n)) l i top = some (j, h) → ∃ fs : TFs, (TFs.ok s fs) l ∧ h = max top (TFs.ht fs) ∧ At t i (TFs.rd fs) ∧ j = i + (TFs.rd fs).length
  | [], i, top, j, h, hl, e => by
    simp only [pFs, Option.some.injEq, Prod.mk.injEq] at e
    exact ⟨.nil, by simp [TFs.ok_nil, TFs.ok_cons], by simp [TFs.ht_nil, TFs.ht_cons]; omega, by simp only [TFs.rd_nil, TFs.rd_cons]; exact At.nil _, by simp [TFs.rd_nil, TFs.rd_cons]; omega⟩
  | p :: l, i, top, j, h, hl, e => by
    unfold pFs at e
    cases hq : pF s t 0 (pE s t 0 n) p i with
    | none => rw [hq] at e; cases e
    | some q =>
      obtain ⟨k, h1⟩ := q
      rw [hq] at e
      simp only at e
      obtain ⟨f, o1, o2, o3, o4⟩ := pF_tree ih (hl p (by simp)) hq
      obtain ⟨fs, p1, p2, p3, p4⟩ := pFs_tree ih l k _ j h (fun f' hf => hl f' (by simp [hf])) e
      refine ⟨.cons f fs, ?_, by simp only [TFs.ht_nil, TFs.ht_cons]; omega, ?_, by simp only [TFs.rd_nil, TFs.rd_cons, List.length_append]; omega⟩
      · simp only [TFs.ok_nil, TFs.ok_cons]; exact ⟨p, l, rfl, o1, p1⟩
      · simp only [TFs.rd_nil, TFs.rd_cons]; exact o3.app (by rw [← o4]; exact p3)
theorem pE_tree : ∀ n, IsE s t n
  | 0, x, i, j, h, e => by cases e
  | n + 1, x, i, j, h, e => by
    have ih : IsE s t n := pE_tree n
    unfold pE at e
    split at e
    · rename_i hd
      have hv : 48 ≤ bt t i ∧ bt t i ≤ 57 := by simpa [cD] using hd
      cases hq : ap s (bt t i - 48).toNat x with
      | none => rw [hq] at e; cases e
      | some a =>
        rw [hq] at e
        simp only at e
        obtain ⟨fs, p1, p2, p3, p4⟩ := pFs_tree ih (fe s a).1 (i + 1) 0 j h (fun f hf => (fe_mem hf).1) e
        refine ⟨.mk (bt t i - 48).toNat fs, ?_, by simp only [TE.ht_mk]; omega, ?_, by simp only [TE.rd_mk, List.length_cons]; omega⟩
        · simp only [TE.ok_mk]; exact ⟨by omega, a, hq, p1⟩
        · simp only [TE.rd_mk]; exact At.cons (by omega) p3
    · cases e
/-- a tree of the grammar, as a tree -/
structure TreeOf (s t : ByteArray) (f : TF) : Prop where
  ok : f.ok s 0
  at_ : At t 0 f.rd
  sz : t.size = f.rd.length
  le : t.size ≤ 2000
theorem whole_tree (hf : isF s 0 = true) {h : Nat} (e : whole s t 0 = some h) : ∃ f : TF, TreeOf s t f ∧ f.ht = h := by
  unfold whole at e
  split at e
  · cases e
  cases hq : pF s t 0 (pE s t 0 (t.size + 1)) 0 0 with
  | none => rw [hq] at e; cases e
  | some q =>
    obtain ⟨j, k⟩ := q
    rw [hq] at e
    simp only at e
    split at e
    · rename_i hj
      obtain ⟨f, o1, o2, o3, o4⟩ := pF_tree (pE_tree _) hf hq
      simp only [Option.some.injEq] at e
      exact ⟨f, ⟨o1, o3, by omega, by omega⟩, by omega⟩
    · cases e
theorem TreeOf.whole (hf : isF s 0 = true) {f : TF} (h : TreeOf s t f) : whole s t 0 = some f.ht := by
  unfold Go.Proofs.YtnfaiaoipeholaaGreatDoor.whole
  have := TF.read (s := s) (t := t) (t.size + 1) f 0 0 hf h.ok h.at_ (by have := h.sz; omega)
  rw [if_neg (by have := h.le; omega), this]
  simp only
  rw [if_pos (by have := h.sz; omega)]
end
end Go.Proofs.YtnfaiaoipeholaaGreatDoor
