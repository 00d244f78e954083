/- What Parse's chart reckons: the least of some numbers, the tables, what a grammar's places have behind them. No Go here. -/
import Derived.Test.YtnfaiaoipeholaaCntMath
import Derived.Test.YtnfaiaoipeholaaWnInv
namespace Go.Proofs.Ytnfaiaoipeholaa

/-- the first least of some numbers, and which -/
def bst (f : Nat → Nat) : Nat → Nat → Nat × Nat → Nat × Nat
  | 0, _, r => r
  | n + 1, k, r => bst f n (k + 1) (if f k < r.1 then (f k, k) else r)
theorem bst_init (f : Nat → Nat) : ∀ n k r, (bst f n k r).1 ≤ r.1
  | 0, k, r => Nat.le_refl _
  | n + 1, k, r => by
    have := bst_init f n (k + 1) (if f k < r.1 then (f k, k) else r)
    unfold bst
    refine Nat.le_trans this ?_
    split
    · simp only; omega
    · exact Nat.le_refl _
theorem bst_le (f : Nat → Nat) : ∀ n k r j, k ≤ j → j < k + n → (bst f n k r).1 ≤ f j
  | 0, k, r, j, h1, h2 => by omega
  | n + 1, k, r, j, h1, h2 => by
    unfold bst
    by_cases e : j = k
    · subst e
      refine Nat.le_trans (bst_init f n (j + 1) (if f j < r.1 then (f j, j) else r)) ?_
      split
      · exact Nat.le_refl _
      · omega
    · exact bst_le f n (k + 1) _ j (by omega) (by omega)
theorem bst_cases (f : Nat → Nat) : ∀ n k r, bst f n k r = r ∨ ∃ j, k ≤ j ∧ j < k + n ∧ bst f n k r = (f j, j) ∧ f j < r.1
  | 0, k, r => .inl rfl
  | n + 1, k, r => by
    unfold bst
    by_cases h : f k < r.1
    · rw [if_pos h]
      rcases bst_cases f n (k + 1) (f k, k) with e | ⟨j, h1, h2, h3, h4⟩
      · exact .inr ⟨k, by omega, by omega, e, h⟩
      · exact .inr ⟨j, by omega, by omega, h3, by simp at h4; omega⟩
    · rw [if_neg h]
      rcases bst_cases f n (k + 1) r with e | ⟨j, h1, h2, h3, h4⟩
      · exact .inl e
      · exact .inr ⟨j, by omega, by omega, h3, h4⟩
theorem bst_congr {f g : Nat → Nat} : ∀ n k r, (∀ j, k ≤ j → j < k + n → f j = g j) → bst f n k r = bst g n k r
  | 0, k, r, h => rfl
  | n + 1, k, r, h => by
    unfold bst; rw [h k (by omega) (by omega)]
    exact bst_congr n (k + 1) _ (fun j h1 h2 => h j (by omega) (by omega))
theorem bst_mono {f g : Nat → Nat} {n k : Nat} {r r' : Nat × Nat} (h : ∀ j, k ≤ j → j < k + n → f j ≤ g j) (hr : r.1 ≤ r'.1) : (bst f n k r).1 ≤ (bst g n k r').1 := by
  rcases bst_cases g n k r' with e | ⟨j, h1, h2, h3, h4⟩
  · rw [e]; exact Nat.le_trans (bst_init f n k r) hr
  · rw [h3]; exact Nat.le_trans (bst_le f n k r j h1 h2) (h j h1 h2)

/-- a table: place, from, to -/
abbrev Tb := Nat → Nat → Nat → Nat
def tbU (T : Tb) (p a b v : Nat) : Tb := fun p' a' b' => if p' = p ∧ a' = a ∧ b' = b then v else T p' a' b'
/-- where the expression begins that is in a factor -/
def wi (s : ByteArray) (f : Nat) : Nat := if cN (bt s f) = true then (rl s (bt s f) + 2).toNat else f + 1
/-- an expression begins here -/
def begs (s : ByteArray) (p : Nat) : Bool := bt s ((p : Int) - 1) == 61 || cO (bt s ((p : Int) - 1))
section
variable (s u : ByteArray)
/-- a factor's bytes -/
def fcC (X W : Tb) (f a b : Nat) : Nat :=
  if cL (bt s f) = true then (if b = a + 1 ∧ bt u a = bt s f then 1 else 2001)
  else if cN (bt s f) = true then X (wi s f) a b + 3
  else if (bt s f = 91 ∨ bt s f = 123) ∧ a = b then 2
  else if bt s f = 123 ∨ bt s f = 60 then W (wi s f) a b + 2
  else X (wi s f) a b + 2
/-- the factors' from a place on -/
def rsC (R X W : Tb) (p a b : Nat) : Nat × Nat :=
  if isF s p = true then bst (fun e => fcC s u X W p a e + R (bh s p) e b) (b + 1 - a) a (2001, b) else (if a = b then 0 else 2001, b)
/-- an expression's -/
def exC (R : Tb) (x a b : Nat) : Nat × Nat := bst (fun k => R ((sts s x).getD k 0) a b + 1) (sts s x).length 0 (2001, 0)
end
/-- a row's -/
def rwC (X W : Tb) (x a b : Nat) : Nat × Nat := bst (fun e => X x a e + 1 + W x e b) (b - (a + 1)) (a + 1) (X x a b, b)

section
variable {s u : ByteArray}
theorem fcC_mono {X X' W W' : Tb} {f a b : Nat} (hX : X (wi s f) a b ≤ X' (wi s f) a b) (hW : W (wi s f) a b ≤ W' (wi s f) a b) : fcC s u X W f a b ≤ fcC s u X' W' f a b := by
  unfold fcC
  split
  · exact Nat.le_refl _
  split
  · omega
  split
  · exact Nat.le_refl _
  split <;> omega
theorem rsC_mono {R R' X X' W W' : Tb} {p a b : Nat} (hR : ∀ p a b, R p a b ≤ R' p a b) (hX : ∀ p a b, X p a b ≤ X' p a b) (hW : ∀ p a b, W p a b ≤ W' p a b) : (rsC s u R X W p a b).1 ≤ (rsC s u R' X' W' p a b).1 := by
  unfold rsC; split
  · exact bst_mono (fun _ _ _ => Nat.add_le_add (fcC_mono (hX _ _ _) (hW _ _ _)) (hR _ _ _)) (Nat.le_refl _)
  · exact Nat.le_refl _
theorem exC_mono {R R' : Tb} {x a b : Nat} (hR : ∀ p a b, R p a b ≤ R' p a b) : (exC s R x a b).1 ≤ (exC s R' x a b).1 :=
  bst_mono (fun _ _ _ => Nat.add_le_add (hR _ _ _) (Nat.le_refl _)) (Nat.le_refl _)
theorem rwC_mono {X X' W W' : Tb} {x a b : Nat} (hX : ∀ p a b, X p a b ≤ X' p a b) (hW : ∀ p a b, W p a b ≤ W' p a b) : (rwC X W x a b).1 ≤ (rwC X' W' x a b).1 :=
  bst_mono (fun j _ _ => by have := hX x a j; have := hW x j b; omega) (hX _ _ _)
theorem rsC_cap {R X W : Tb} {p a b : Nat} : (rsC s u R X W p a b).1 ≤ 2001 := by
  unfold rsC; split
  · exact bst_init _ _ _ _
  · simp only; split <;> omega
theorem exC_cap {R : Tb} {x a b : Nat} : (exC s R x a b).1 ≤ 2001 := bst_init _ _ _ _
theorem rwC_cap {X W : Tb} {x a b : Nat} : (rwC X W x a b).1 ≤ X x a b := bst_init _ _ _ _

/-- over a span nothing gets shorter, and nothing is too short -/
structure FixAt (s u : ByteArray) (R X W : Tb) (a b : Nat) : Prop where
  rest : ∀ p, p < s.size → R p a b = (rsC s u R X W p a b).1
  expr : ∀ p, p < s.size → begs s p = true → X p a b = (exC s R p a b).1
  row : ∀ p, p < s.size → begs s p = true → W p a b = (rwC X W p a b).1
/-- tables of numbers that are not too great, with nothing outside -/
structure Nrm (s u : ByteArray) (R X W : Tb) : Prop where
  cR : ∀ p a b, R p a b ≤ 2001
  cX : ∀ p a b, X p a b ≤ 2001
  cW : ∀ p a b, W p a b ≤ 2001
  oR : ∀ p a b, ¬ (p < s.size ∧ a ≤ b ∧ b ≤ u.size) → R p a b = 2001
  oX : ∀ p a b, ¬ (p < s.size ∧ a ≤ b ∧ b ≤ u.size ∧ begs s p = true) → X p a b = 2001
  oW : ∀ p a b, ¬ (p < s.size ∧ a ≤ b ∧ b ≤ u.size ∧ begs s p = true) → W p a b = 2001
/-- the whole chart -/
structure Fix (s u : ByteArray) (R X W : Tb) : Prop extends Nrm s u R X W where
  fix : ∀ a b, a ≤ b → b ≤ u.size → FixAt s u R X W a b

/-- what stands behind a factor lies in the grammar -/
structure Ins (s : ByteArray) : Prop where
  beh : ∀ f, isF s f = true → bh s f < s.size
  nxt : ∀ f, isF s f = true → f + 1 < s.size
  bar : ∀ f : Nat, bt s f = 124 → f + 1 < s.size
  few : ∀ x : Nat, begs s x = true → (sts s x).length ≤ 10
theorem gd_lt {n i d : Nat} (h : good s n i d) : i < s.size := by
  cases n with
  | zero => exact absurd h (by simp [good])
  | succ n =>
    apply bt_lt
    intro e
    unfold good at h
    rw [e] at h
    revert h
    simp [cL, cN, cO, cC, cX]
theorem good_ins {n f d : Nat} (h : good s n f d) (hf : isF s f = true) : bh s f < s.size ∧ f + 1 < s.size := by
  have hlt := isF_lt hf
  cases n with
  | zero => exact absurd h (by simp [good])
  | succ n =>
  rcases h with ⟨hc, hg⟩ | ⟨hc, hg⟩ | ⟨hc, d', hd, hg⟩ | ⟨hc, _⟩
  · have h1 := gd_lt hg
    obtain ⟨n1, n2⟩ := plain_not hc
    have h2 : (cL (bt s f) || cN (bt s f)) = true := by simpa [isF, n1] using hf
    rw [bh_plain hlt h2]; omega
  · have h1 := gd_lt hg
    rw [bh_open hg hc]
    obtain ⟨_, _, _, ⟨m, _, h4⟩, _⟩ := inner s n (f + 1) d hg
    exact ⟨gd_lt h4, h1⟩
  · obtain ⟨n1, n2, n3, n4⟩ := close_not hc
    simp [isF, n1, n2, n3] at hf
  · rw [isF, hc] at hf; exact absurd hf (by decide)
theorem good_bar {n f d : Nat} (h : good s n f d) (hf : bt s f = 124) : f + 1 < s.size := by
  cases n with
  | zero => exact absurd h (by simp [good])
  | succ n =>
  rcases h with ⟨hc, hg⟩ | ⟨hc, hg⟩ | ⟨hc, d', hd, hg⟩ | ⟨hc, _⟩
  · exact gd_lt hg
  · exact gd_lt hg
  · exact gd_lt hg
  · omega
theorem bar_of (s : ByteArray) : ∀ n k a op al, n = s.size - k → Inv a op al → (fmF s n k a op al).1 = 0 → ∀ f : Nat, k ≤ f → bt s f = 124 → f + 1 < s.size
  | 0, k, a, op, al, hn, hi, h, f, hf, hc => by
    have := bt_lt (s := s) (p := f) (by omega); omega
  | n + 1, k, a, op, al, hn, hi, h, f, hf, hc => by
    by_cases h0 : (mst (bt s k) a op al).1 = 0
    case neg => exfalso; unfold fmF at h; rw [if_pos h0] at h; exact h0 h
    have hh := h
    have hf' : fmF s (n + 1) k a op al = fmF s n (k + 1) (mst (bt s k) a op al).2.1 (mst (bt s k) a op al).2.2.1 (mst (bt s k) a op al).2.2.2 := by
      conv => lhs; unfold fmF
      rw [if_neg (by simp [h0])]
    rw [hf'] at h
    have hi' := hi.step h0
    by_cases e : f = k
    · subst e
      have ha : a = 0 ∨ a = 1 ∨ a = 2 := by have := hi.1; have := hi.2.1; omega
      rcases ha with rfl | rfl | rfl
      · rw [mst_name, hc] at h0; simp [cN] at h0
      · rw [mst_eq, hc] at h0; simp at h0
      · exact good_bar (good_of s (n + 1) f op al hn hi hh) hc
    · exact bar_of s n (k + 1) _ _ _ (by omega) hi' h f (by omega) hc
theorem ins_of (s : ByteArray) : ∀ n k a op al, n = s.size - k → Inv a op al → (fmF s n k a op al).1 = 0 → ∀ f : Nat, k ≤ f → isF s f = true → bh s f < s.size ∧ f + 1 < s.size
  | 0, k, a, op, al, hn, hi, h, f, hf, hc => by
    have := isF_lt hc; omega
  | n + 1, k, a, op, al, hn, hi, h, f, hf, hc => by
    by_cases h0 : (mst (bt s k) a op al).1 = 0
    case neg => exfalso; unfold fmF at h; rw [if_pos h0] at h; exact h0 h
    have hh := h
    have hf' : fmF s (n + 1) k a op al = fmF s n (k + 1) (mst (bt s k) a op al).2.1 (mst (bt s k) a op al).2.2.1 (mst (bt s k) a op al).2.2.2 := by
      conv => lhs; unfold fmF
      rw [if_neg (by simp [h0])]
    rw [hf'] at h
    have hi' := hi.step h0
    by_cases e : f = k
    · subst e
      have hlt := isF_lt hc
      have ha : a = 0 ∨ a = 1 ∨ a = 2 := by have := hi.1; have := hi.2.1; omega
      rcases ha with rfl | rfl | rfl
      · rw [mst_name] at h h0 hi'
        by_cases hn' : cN (bt s f) = true
        · rw [if_pos hn'] at h hi'
          have h2 : (cL (bt s f) || cN (bt s f)) = true := by simp [hn']
          rw [bh_plain hlt h2]
          simp only at h
          have : f + 1 < s.size := by
            by_cases hl : f + 1 < s.size
            · exact hl
            · have : n = 0 := by omega
              subst this
              unfold fmF at h; rw [if_pos (by simp)] at h; simp at h
          omega
        · rw [if_neg hn'] at h0; simp at h0
      · rw [mst_eq] at h0
        by_cases h61 : bt s f = 61
        · rw [isF, h61] at hc; exact absurd hc (by decide)
        · rw [if_neg h61] at h0; simp at h0
      · exact good_ins (good_of s (n + 1) f op al hn hi hh) hc
    · exact ins_of s n (k + 1) _ _ _ (by omega) hi' h f (by omega) hc
theorem ins_chk (h : (chk s).1 = 0) : Ins s := by
  unfold chk at h
  by_cases h1 : 300 < s.size
  · rw [if_pos h1] at h; simp at h
  rw [if_neg h1] at h
  by_cases h2 : (fmF s s.size 0 0 [] []).1 = 0
  case neg => rw [if_pos h2] at h; exact absurd h h2
  have h3 := fun f hf => ins_of s s.size 0 0 [] [] (by omega) Inv.start h2 f (by omega) hf
  refine ⟨fun f hf => (h3 f hf).1, fun f hf => (h3 f hf).2, fun f hf => bar_of s s.size 0 0 [] [] (by omega) Inv.start h2 f (by omega) hf, fun x hx => ?_⟩
  cases x with
  | zero => exact absurd hx (by unfold begs; rw [bt_out s _ (by omega)]; decide)
  | succ f =>
    refine ten_of s s.size 0 0 [] [] (by omega) Inv.start h2 f (by omega) ?_
    unfold begs at hx
    rw [show ((f + 1 : Nat) : Int) - 1 = (f : Int) by omega] at hx
    have : bt s f = 61 ∨ cO (bt s f) = true := by simpa using hx
    exact this.symm
/-- an alternative of what begins in the grammar begins in it -/
theorem ap_ins (ins : Ins s) : ∀ {k x a : Nat}, x < s.size → ap s k x = some a → a < s.size
  | 0, x, a, hx, h => by simp [ap] at h; omega
  | k + 1, x, a, hx, h => by
    unfold ap at h; split at h
    · rename_i e
      exact ap_ins ins (ins.bar _ e) h
    · simp at h
/-- what is in a factor begins an expression -/
theorem wi_begs (g : Gram s) (i : Ins s) {f : Nat} (hf : isF s f = true) (hl : cL (bt s f) = false) : wi s f < s.size ∧ begs s (wi s f) = true := by
  unfold wi
  by_cases hn : cN (bt s f) = true
  · rw [if_pos hn]
    obtain ⟨j, h1, h2, h3, h4⟩ := g.name f hn
    obtain ⟨_, h61, h5, n, hg⟩ := g.rule j h2 h3
    rw [h1, show ((j : Int) + 2).toNat = j + 2 by omega]
    refine ⟨gd_lt hg, ?_⟩
    unfold begs
    rw [show ((j + 2 : Nat) : Int) - 1 = ((j + 1 : Nat) : Int) by omega, h61]; rfl
  · rw [if_neg hn]
    refine ⟨i.nxt f hf, ?_⟩
    have ho : cO (bt s f) = true := by simpa [isF, hl, hn] using hf
    unfold begs
    rw [show ((f + 1 : Nat) : Int) - 1 = (f : Int) by omega, ho]; simp
theorem wi_open {f : Nat} (hn : cN (bt s f) = false) : wi s f = f + 1 := by simp [wi, hn]
end
end Go.Proofs.Ytnfaiaoipeholaa
/- A tree that has a word has no fewer bytes than the chart tells. No Go here. -/
namespace Go.Proofs.Ytnfaiaoipeholaa
/-- the letters of a text between two places -/
def tl (t : ByteArray) (i j : Nat) : List Int := ((List.range' i (j - i)).map fun k : Nat => bt t k).filter fun c => cL c
/-- what stands there -/
def ws (u : ByteArray) (a b : Nat) : List Int := (List.range' a (b - a)).map fun k : Nat => bt u k
section
variable {s t u : ByteArray}
theorem rng_join {i k j : Nat} (h1 : i ≤ k) (h2 : k ≤ j) : List.range' i (j - i) = List.range' i (k - i) ++ List.range' k (j - k) := by
  have := List.range'_append_1 (s := i) (m := k - i) (n := j - k)
  rw [show i + (k - i) = k by omega, show k - i + (j - k) = j - i by omega] at this
  exact this.symm
theorem ws_len {a b : Nat} : (ws u a b).length = b - a := by simp [ws]
theorem ws_join {a e b : Nat} (h1 : a ≤ e) (h2 : e ≤ b) : ws u a b = ws u a e ++ ws u e b := by
  unfold ws; rw [rng_join h1 h2, List.map_append]
theorem ws_split {l m : List Int} {a b : Nat} (h : l ++ m = ws u a b) (hab : a ≤ b) : ∃ e, a ≤ e ∧ e ≤ b ∧ l = ws u a e ∧ m = ws u e b := by
  have hl : l.length + m.length = b - a := by rw [← List.length_append, h, ws_len]
  refine ⟨a + l.length, by omega, by omega, ?_⟩
  rw [ws_join (e := a + l.length) (by omega) (by omega)] at h
  exact List.append_inj h (by rw [ws_len]; omega)
theorem tl_join {i k j : Nat} (h1 : i ≤ k) (h2 : k ≤ j) : tl t i j = tl t i k ++ tl t k j := by
  unfold tl; rw [rng_join h1 h2, List.map_append, List.filter_append]
theorem tl_one (i : Nat) : tl t i (i + 1) = if cL (bt t i) = true then [bt t i] else [] := by
  unfold tl; rw [show i + 1 - i = 1 by omega]; simp [List.range', List.filter]
  cases cL (bt t i) <;> rfl
theorem tl_nil (i : Nat) : tl t i i = [] := by unfold tl; simp
theorem tl_first {i j : Nat} (h : i < j) (hc : cL (bt t i) = false) : tl t i j = tl t (i + 1) j := by
  rw [tl_join (k := i + 1) (by omega) (by omega), tl_one, if_neg (by simp [hc])]; rfl
theorem tl_last {i j : Nat} (h : i ≤ j) (hc : cL (bt t j) = false) : tl t i (j + 1) = tl t i j := by
  rw [tl_join (k := j) h (by omega), tl_one, if_neg (by simp [hc])]; simp
theorem ws_nil {a b : Nat} (h : [] = ws u a b) (hab : a ≤ b) : a = b := by
  have := congrArg List.length h; rw [ws_len] at this; simp at this; omega
theorem cL_cC (c : Int) : cL (cC c) = false := by
  rcases cC_vals c with h | h | h | h | h <;> rw [h] <;> decide

variable {R X W : Tb}
/-- expressions that are read so deep have so many bytes -/
def Cst (s u t : ByteArray) (X : Tb) (n : Nat) : Prop :=
  ∀ x i j h a b, x < s.size → begs s x = true → pE s t 0 n x i = some (j, h) → a ≤ b → b ≤ u.size → tl t i j = ws u a b → i + X x a b ≤ j

theorem rwC_one (x a b : Nat) : (rwC X W x a b).1 ≤ X x a b := bst_init _ _ _ _
theorem rwC_two {x a e b : Nat} (h1 : a < e) (h2 : e < b) : (rwC X W x a b).1 ≤ X x a e + 1 + W x e b :=
  bst_le (fun e => X x a e + 1 + W x e b) _ _ _ e (by omega) (by omega)
theorem pEl_cost (fx : Fix s u R X W) {n x : Nat} {c : Int} {many : Bool} (hc : cL c = false) (hc0 : c ≠ 0) (hx : x < s.size) (hb : begs s x = true) (ih : Cst s u t X n) :
    ∀ m i top cnt j h a b, top ≤ n → pEl t (pE s t 0 n x) c many 0 m i top cnt = some (j, h) → a ≤ b → b ≤ u.size → tl t i j = ws u a b → i + (if many = true then W x a b else X x a b) + 1 ≤ j
  | 0, i, top, cnt, j, h, a, b, ht, e, hab, hbu, hw => by cases e
  | m + 1, i, top, cnt, j, h, a, b, ht, e, hab, hbu, hw => by
    unfold pEl at e
    cases hq : pE s t 0 n x i with
    | none => rw [hq] at e; cases e
    | some q =>
      obtain ⟨k, h1⟩ := q
      rw [hq] at e
      simp only at e
      have hf := pE_fwd s t 0 n x i k h1 hq
      have h2 := (fx.fix a b hab hbu).row x hx hb
      have h3 := rwC_one (X := X) (W := W) x a b
      split at e
      · cases e
      split at e
      · rename_i hbt
        have hj : k + 1 = j := by simp at e; omega
        subst hj
        rw [tl_last (by omega) (by rw [hbt]; exact hc)] at hw
        have := ih x i k h1 a b hx hb hq hab hbu hw
        split <;> omega
      split at e
      · rename_i hbt hm
        have hfw := pEl_fwd (t := t) (n := n) (fun i => pE_fwd s t 0 n x i) hc0 m (k + 1) (max top h1) (cnt + 1) (by omega) j h e
        rw [tl_join (k := k) (by omega) (by omega), tl_first (i := k) (by omega) (by rw [hm.1]; decide)] at hw
        obtain ⟨d, hd1, hd2, hd3, hd4⟩ := ws_split hw hab
        have r1 := ih x i k h1 a d hx hb hq hd1 (by omega) hd3
        have r2 := pEl_cost fx hc hc0 hx hb ih m (k + 1) (max top h1) (cnt + 1) j h d b (by omega) e hd2 hbu hd4
        rw [if_pos hm.2] at r2 ⊢
        by_cases e1 : a = d
        · subst e1; omega
        · by_cases e2 : d = b
          · subst e2; omega
          · have := rwC_two (X := X) (W := W) (x := x) (show a < d by omega) (show d < b by omega)
            omega
      · cases e
theorem pF_cost (fx : Fix s u R X W) (g : Gram s) (ins : Ins s) {n : Nat} (ih : Cst s u t X n) {f i j h a b : Nat} (hf : isF s f = true) (e : pF s t 0 (pE s t 0 n) f i = some (j, h)) (hab : a ≤ b) (hbu : b ≤ u.size) (hw : tl t i j = ws u a b) : i + fcC s u X W f a b ≤ j := by
  have hfw := pF_fwd (s := s) (t := t) (most := 0) (fun x i => pE_fwd s t 0 n x i) (i := i) hf j h e
  unfold pF at e
  split at e
  · cases e
  rename_i hbt
  have hbt' : bt t i = bt s f := by simpa using hbt
  unfold fcC
  split at e
  · rename_i hl
    have hj : i + 1 = j := by simp at e; omega
    subst hj
    rw [if_pos hl]
    rw [tl_one, if_pos (by rw [hbt']; exact hl)] at hw
    have hlen := congrArg List.length hw
    rw [ws_len] at hlen
    simp at hlen
    have hb1 : b = a + 1 := by omega
    subst hb1
    have : ws u a (a + 1) = [bt u a] := by unfold ws; rw [show a + 1 - a = 1 by omega]; simp
    rw [this] at hw
    rw [if_pos ⟨rfl, by simp at hw; omega⟩]
    omega
  rename_i hl
  have hl' : cL (bt s f) = false := by simpa using hl
  obtain ⟨hx, hb⟩ := wi_begs g ins hf hl'
  rw [if_neg hl]
  rw [tl_first (by omega) (by rw [hbt']; exact hl')] at hw
  split at e
  · rename_i hn
    rw [if_pos hn]
    unfold pN at e
    split at e
    · cases e
    rename_i h40
    have hwi : wi s f = (rl s (bt s f) + 2).toNat := by unfold wi; rw [if_pos hn]
    rw [← hwi] at e
    cases hq : pE s t 0 n (wi s f) (i + 1 + 1) with
    | none => rw [hq] at e; cases e
    | some q =>
      obtain ⟨k, h1⟩ := q
      rw [hq] at e
      simp only at e
      have hf1 := pE_fwd s t 0 n _ _ k h1 hq
      split at e
      · rename_i h41
        have hj : k + 1 = j := by simp at e; omega
        subst hj
        have h40' : bt t ((i + 1 : Nat) : Int) = 40 := by simpa using h40
        rw [tl_first (by omega) (by rw [h40']; decide), tl_last (by omega) (by rw [h41]; decide)] at hw
        have := ih _ _ _ _ a b hx hb hq hab hbu hw
        omega
      · cases e
  · rename_i hn
    rw [if_neg hn]
    have hn' : cN (bt s f) = false := by simpa using hn
    have hc0 := isF_cC hf hl' hn'
    have ho := cO_vals (c := bt s f) (by simp [cO, hc0])
    rw [wi_open hn'] at hx hb ⊢
    unfold pB at e
    split at e
    · rename_i hc
      have hj : i + 1 + 1 = j := by simp at e; omega
      subst hj
      rw [tl_one, if_neg (by rw [hc.1, cL_cC]; simp)] at hw
      have := ws_nil hw hab
      rw [if_pos ⟨hc.2, this⟩]; omega
    · rename_i hc
      have h1 := pEl_cost fx (cL_cC _) hc0 hx hb ih _ _ _ _ j h a b (by omega) e hab hbu hw
      by_cases hm : bt s f = 123 ∨ bt s f = 60
      · rw [if_pos (by simpa using hm)] at h1
        split
        · omega
        · omega
      · rw [if_neg (by simpa using hm)] at h1
        split
        · omega
        · omega
theorem pFs_cost (fx : Fix s u R X W) (g : Gram s) (ins : Ins s) {n : Nat} (ih : Cst s u t X n) : ∀ N p i top j h a b, s.size - p ≤ N → p < s.size → top ≤ n + 1 → pFs (pF s t 0 (pE s t 0 n)) (fe s p).1 i top = some (j, h) → a ≤ b → b ≤ u.size → tl t i j = ws u a b → i + R p a b ≤ j
  | 0, p, i, top, j, h, a, b, hN, hp, ht, e, hab, hbu, hw => by omega
  | N + 1, p, i, top, j, h, a, b, hN, hp, ht, e, hab, hbu, hw => by
    have hR := (fx.fix a b hab hbu).rest p hp
    cases hf : isF s p
    · rw [fe_no hf] at e
      have hj : i = j := by simp [pFs] at e; omega
      subst hj
      rw [tl_nil] at hw
      have := ws_nil hw hab
      unfold rsC at hR
      rw [if_neg (by simp [hf])] at hR
      simp only at hR
      rw [if_pos this] at hR
      omega
    · have hbh := bh_bd hf
      have hin := ins.beh p hf
      rw [fe_yes hf] at e
      unfold pFs at e
      cases hq : pF s t 0 (pE s t 0 n) p i with
      | none => rw [hq] at e; cases e
      | some q =>
        obtain ⟨k, h1⟩ := q
        rw [hq] at e
        simp only at e
        have hf1 := pF_fwd (s := s) (t := t) (most := 0) (fun x i => pE_fwd s t 0 n x i) (i := i) hf k h1 hq
        have hf2 := pFs_fwd (t := t) (n := n + 1) (fe s (bh s p)).1 k (max top h1) (fun f hf i => pF_fwd (fun x i => pE_fwd s t 0 n x i) (fe_mem hf).1) (by omega) j h e
        rw [tl_join (k := k) (by omega) (by omega)] at hw
        obtain ⟨d, hd1, hd2, hd3, hd4⟩ := ws_split hw hab
        have r1 := pF_cost fx g ins ih hf hq hd1 (by omega) hd3
        have r2 := pFs_cost fx g ins ih N (bh s p) k (max top h1) j h d b (by omega) hin (by omega) e hd2 hbu hd4
        unfold rsC at hR
        rw [if_pos hf] at hR
        have := bst_le (fun e => fcC s u X W p a e + R (bh s p) e b) (b + 1 - a) a (2001, b) d hd1 (by omega)
        omega
theorem pE_cost (fx : Fix s u R X W) (g : Gram s) (ins : Ins s) : ∀ n, Cst s u t X n
  | 0, x, i, j, h, a, b, hx, hb, e, hab, hbu, hw => by cases e
  | n + 1, x, i, j, h, a, b, hx, hb, e, hab, hbu, hw => by
    have ih : Cst s u t X n := pE_cost fx g ins n
    have hfw := pE_fwd s t 0 (n + 1) x i j h e
    unfold pE at e
    split at e
    · rename_i hd
      cases hq : ap s (bt t i - 48).toNat x with
      | none => rw [hq] at e; cases e
      | some p =>
        rw [hq] at e
        simp only at e
        have hv : 48 ≤ bt t i ∧ bt t i ≤ 57 := by simpa [cD] using hd
        rw [tl_first (by omega) (by simp [cL]; omega)] at hw
        have r := pFs_cost fx g ins ih _ p (i + 1) 0 j h a b (Nat.le_refl _) (ap_ins ins hx hq) (by omega) e hab hbu hw
        have hX := (fx.fix a b hab hbu).expr x hx hb
        have hq' := hq
        rw [sts_ap] at hq'
        obtain ⟨hk, hk2⟩ := List.getElem?_eq_some_iff.1 hq'
        have := bst_le (fun k => R ((sts s x).getD k 0) a b + 1) (sts s x).length 0 (2001, 0) (bt t i - 48).toNat (Nat.zero_le _) (by omega)
        simp only [List.getD_eq_getElem?_getD, hq', Option.getD_some] at this
        unfold exC at hX
        simp only [List.getD_eq_getElem?_getD] at hX
        omega
    · cases e
/-- a tree of the grammar that has the word is not shorter than the start's -/
theorem whole_cost (fx : Fix s u R X W) (g : Gram s) (ins : Ins s) (hs : isF s 0 = true) {h : Nat} (e : whole s t 0 = some h) (hw : tl t 0 t.size = ws u 0 u.size) : fcC s u X W 0 0 u.size ≤ t.size ∧ t.size ≤ 2000 := by
  unfold whole at e
  split at e
  · cases e
  cases hq : pF s t 0 (pE s t 0 (t.size + 1)) 0 0 with
  | none => rw [hq] at e; cases e
  | some q =>
    obtain ⟨j, h1⟩ := q
    rw [hq] at e
    simp only at e
    split at e
    · rename_i hj
      subst hj
      have := pF_cost fx g ins (pE_cost fx g ins _) hs hq (Nat.zero_le _) (Nat.le_refl _) hw
      omega
    · cases e
end
end Go.Proofs.Ytnfaiaoipeholaa
/- What the chart tells is one thing; and what is written by it is a tree that has the word. No Go here. -/
namespace Go.Proofs.Ytnfaiaoipeholaa
section
variable {s u : ByteArray} {R X W R' X' W' : Tb}
theorem fcC_pos {f a b : Nat} : 1 ≤ fcC s u X W f a b := by
  unfold fcC; split
  · split <;> omega
  split
  · omega
  split
  · omega
  split <;> omega
/-- how a rest is put together -/
theorem rsC_cases {p a b : Nat} (hf : isF s p = true) (hv : (rsC s u R X W p a b).1 ≤ 2000) :
    ∃ e, a ≤ e ∧ e ≤ b ∧ rsC s u R X W p a b = (fcC s u X W p a e + R (bh s p) e b, e) := by
  unfold rsC at hv ⊢
  rw [if_pos hf] at hv ⊢
  rcases bst_cases (fun e => fcC s u X W p a e + R (bh s p) e b) (b + 1 - a) a (2001, b) with e | ⟨j, h1, h2, h3, _⟩
  · rw [e] at hv; simp at hv
  · exact ⟨j, h1, by omega, h3⟩
theorem exC_cases {x a b : Nat} (hv : (exC s R x a b).1 ≤ 2000) :
    ∃ k p, ap s k x = some p ∧ (sts s x).getD k 0 = p ∧ exC s R x a b = (R p a b + 1, k) := by
  unfold exC at hv ⊢
  rcases bst_cases (fun k => R ((sts s x).getD k 0) a b + 1) (sts s x).length 0 (2001, 0) with e | ⟨j, h1, h2, h3, _⟩
  · rw [e] at hv; simp at hv
  · have hj : j < (sts s x).length := by omega
    refine ⟨j, (sts s x).getD j 0, ?_, rfl, h3⟩
    rw [sts_ap, List.getD_eq_getElem?_getD, List.getElem?_eq_getElem hj]; rfl
theorem rwC_cases (x a b : Nat) : rwC X W x a b = (X x a b, b) ∨ ∃ e, a < e ∧ e < b ∧ rwC X W x a b = (X x a e + 1 + W x e b, e) := by
  rcases bst_cases (fun e => X x a e + 1 + W x e b) (b - (a + 1)) (a + 1) (X x a b, b) with e | ⟨j, h1, h2, h3, _⟩
  · exact .inl e
  · exact .inr ⟨j, by omega, by omega, h3⟩

/-- the other tables tell no more, up to so many bytes -/
structure Les (R X W R' X' W' : Tb) (v : Nat) : Prop where
  r : ∀ p a b, R p a b ≤ v → R' p a b ≤ R p a b
  x : ∀ p a b, X p a b ≤ v → X' p a b ≤ X p a b
  w : ∀ p a b, W p a b ≤ v → W' p a b ≤ W p a b
theorem fcC_les {v f a b : Nat} (h : Les R X W R' X' W' v) (hv : fcC s u X W f a b ≤ v + 1) : fcC s u X' W' f a b ≤ fcC s u X W f a b := by
  unfold fcC at hv ⊢
  split
  · exact Nat.le_refl _
  rename_i h1
  rw [if_neg h1] at hv
  split
  · rename_i h2
    rw [if_pos h2] at hv
    have := h.x (wi s f) a b (by omega); omega
  rename_i h2
  rw [if_neg h2] at hv
  split
  · exact Nat.le_refl _
  rename_i h3
  rw [if_neg h3] at hv
  split
  · rename_i h4
    rw [if_pos h4] at hv
    have := h.w (wi s f) a b (by omega); omega
  · rename_i h4
    rw [if_neg h4] at hv
    have := h.x (wi s f) a b (by omega); omega
theorem les_step (fx : Fix s u R X W) (fx' : Fix s u R' X' W') {v : Nat} (ih : Les R X W R' X' W' v) : Les R X W R' X' W' (v + 1) := by
  have hx : ∀ p a b, X p a b ≤ v + 1 → X' p a b ≤ X p a b := by
    intro p a b hv
    by_cases hd : p < s.size ∧ a ≤ b ∧ b ≤ u.size ∧ begs s p = true
    · obtain ⟨h1, h2, h3, h4⟩ := hd
      have e1 := (fx.fix a b h2 h3).expr p h1 h4
      have e2 := (fx'.fix a b h2 h3).expr p h1 h4
      by_cases hc : X p a b ≤ 2000
      · obtain ⟨k, q, k1, k2, k3⟩ := exC_cases (s := s) (R := R) (x := p) (a := a) (b := b) (by omega)
        rw [k3] at e1
        simp only at e1
        have hr := ih.r q a b (by omega)
        have hk : k < (sts s p).length := by
          rw [sts_ap] at k1; exact (List.getElem?_eq_some_iff.1 k1).1
        have := bst_le (fun k => R' ((sts s p).getD k 0) a b + 1) (sts s p).length 0 (2001, 0) k (Nat.zero_le _) (by omega)
        simp only [k2] at this
        unfold exC at e2
        omega
      · have := fx'.cX p a b; omega
    · have := fx.oX p a b hd; have := fx'.cX p a b; omega
  refine ⟨fun p a b hv => ?_, hx, fun p a b hv => ?_⟩
  · by_cases hd : p < s.size ∧ a ≤ b ∧ b ≤ u.size
    · obtain ⟨h1, h2, h3⟩ := hd
      have e1 := (fx.fix a b h2 h3).rest p h1
      have e2 := (fx'.fix a b h2 h3).rest p h1
      by_cases hc : R p a b ≤ 2000
      · cases hf : isF s p
        · unfold rsC at e1 e2
          rw [if_neg (by simp [hf])] at e1 e2
          omega
        · obtain ⟨e, k1, k2, k3⟩ := rsC_cases (u := u) (R := R) (X := X) (W := W) (a := a) (b := b) hf (by omega)
          rw [k3] at e1
          simp only at e1
          have hpos := fcC_pos (s := s) (u := u) (X := X) (W := W) (f := p) (a := a) (b := e)
          have hr := ih.r (bh s p) e b (by omega)
          have hfc := fcC_les (s := s) (u := u) (f := p) (a := a) (b := e) ih (by omega)
          have := bst_le (fun e => fcC s u X' W' p a e + R' (bh s p) e b) (b + 1 - a) a (2001, b) e k1 (by omega)
          unfold rsC at e2
          rw [if_pos hf] at e2
          omega
      · have := fx'.cR p a b; omega
    · have := fx.oR p a b hd; have := fx'.cR p a b; omega
  · by_cases hd : p < s.size ∧ a ≤ b ∧ b ≤ u.size ∧ begs s p = true
    · obtain ⟨h1, h2, h3, h4⟩ := hd
      have e1 := (fx.fix a b h2 h3).row p h1 h4
      have e2 := (fx'.fix a b h2 h3).row p h1 h4
      rcases rwC_cases (X := X) (W := W) p a b with k | ⟨e, k1, k2, k3⟩
      · rw [k] at e1
        simp only at e1
        have := hx p a b (by omega)
        have := rwC_one (X := X') (W := W') p a b
        omega
      · rw [k3] at e1
        simp only at e1
        have := ih.x p a e (by omega)
        have := ih.w p e b (by omega)
        have := rwC_two (X := X') (W := W') (x := p) k1 k2
        omega
    · have := fx.oW p a b hd; have := fx'.cW p a b; omega
theorem les_zero (fx : Fix s u R X W) (fx' : Fix s u R' X' W') : Les R X W R' X' W' 0 := by
  have hx : ∀ p a b, X p a b ≤ 0 → X' p a b ≤ X p a b := by
    intro p a b hv
    by_cases hd : p < s.size ∧ a ≤ b ∧ b ≤ u.size ∧ begs s p = true
    · obtain ⟨h1, h2, h3, h4⟩ := hd
      have e1 := (fx.fix a b h2 h3).expr p h1 h4
      obtain ⟨k, q, k1, k2, k3⟩ := exC_cases (s := s) (R := R) (x := p) (a := a) (b := b) (by omega)
      rw [k3] at e1
      simp only at e1
      omega
    · have := fx.oX p a b hd; omega
  refine ⟨fun p a b hv => ?_, hx, fun p a b hv => ?_⟩
  · by_cases hd : p < s.size ∧ a ≤ b ∧ b ≤ u.size
    · obtain ⟨h1, h2, h3⟩ := hd
      have e1 := (fx.fix a b h2 h3).rest p h1
      have e2 := (fx'.fix a b h2 h3).rest p h1
      cases hf : isF s p
      · unfold rsC at e1 e2
        rw [if_neg (by simp [hf])] at e1 e2
        omega
      · obtain ⟨e, k1, k2, k3⟩ := rsC_cases (u := u) (R := R) (X := X) (W := W) (a := a) (b := b) hf (by omega)
        rw [k3] at e1
        simp only at e1
        have hpos := fcC_pos (s := s) (u := u) (X := X) (W := W) (f := p) (a := a) (b := e)
        omega
    · have := fx.oR p a b hd; omega
  · by_cases hd : p < s.size ∧ a ≤ b ∧ b ≤ u.size ∧ begs s p = true
    · obtain ⟨h1, h2, h3, h4⟩ := hd
      have e1 := (fx.fix a b h2 h3).row p h1 h4
      have e2 := (fx'.fix a b h2 h3).row p h1 h4
      rcases rwC_cases (X := X) (W := W) p a b with k | ⟨e, k1, k2, k3⟩
      · rw [k] at e1
        simp only at e1
        have := hx p a b (by omega)
        have := rwC_one (X := X') (W := W') p a b
        omega
      · rw [k3] at e1
        simp only at e1
        omega
    · have := fx.oW p a b hd; omega
theorem les_all (fx : Fix s u R X W) (fx' : Fix s u R' X' W') : ∀ v, Les R X W R' X' W' v
  | 0 => les_zero fx fx'
  | v + 1 => les_step fx fx' (les_all fx fx' v)
/-- there is one chart alone -/
theorem fix_one (fx : Fix s u R X W) (fx' : Fix s u R' X' W') : R = R' ∧ X = X' ∧ W = W' := by
  have h1 := les_all fx fx' 2001
  have h2 := les_all fx' fx 2001
  refine ⟨?_, ?_, ?_⟩ <;> funext p a b
  · exact Nat.le_antisymm (h2.r p a b (fx'.cR p a b)) (h1.r p a b (fx.cR p a b))
  · exact Nat.le_antisymm (h2.x p a b (fx'.cX p a b)) (h1.x p a b (fx.cX p a b))
  · exact Nat.le_antisymm (h2.w p a b (fx'.cW p a b)) (h1.w p a b (fx.cW p a b))
end

/-- factors as they are written -/
def wrFs (s u : ByteArray) (R X W : Tb) (g : Nat → Nat → Nat → List Int) : List Nat → Nat → Nat → List Int
  | [], _, _ => []
  | f :: l, a, b => g f a (rsC s u R X W f a b).2 ++ wrFs s u R X W g l (rsC s u R X W f a b).2 b
/-- a row -/
def wrR (X W : Tb) (rec : Nat → Nat → List Int) (x : Nat) : Nat → Nat → Nat → List Int
  | 0, _, _ => []
  | m + 1, a, b => rec a (rwC X W x a b).2 ++ (if (rwC X W x a b).2 < b then 44 :: wrR X W rec x m (rwC X W x a b).2 b else [])
/-- what is in a name or a bracket -/
def wrI (s : ByteArray) (X W : Tb) (rec : Nat → Nat → Nat → List Int) (f a b : Nat) : List Int :=
  if (bt s f = 91 ∨ bt s f = 123) ∧ a = b then []
  else if bt s f = 123 ∨ bt s f = 60 then wrR X W (rec (wi s f)) (wi s f) (b - a + 1) a b
  else rec (wi s f) a b
/-- a factor -/
def wrF (s : ByteArray) (X W : Tb) (rec : Nat → Nat → Nat → List Int) (f a b : Nat) : List Int :=
  bt s f :: (if cN (bt s f) = true then 40 :: (wrI s X W rec f a b ++ [41]) else if cO (bt s f) = true then wrI s X W rec f a b ++ [cC (bt s f)] else [])
/-- an expression -/
def wrE (s u : ByteArray) (R X W : Tb) : Nat → Nat → Nat → Nat → List Int
  | 0, _, _, _ => []
  | n + 1, x, a, b => (48 + ((exC s R x a b).2 : Int)) :: wrFs s u R X W (wrF s X W (wrE s u R X W n)) (fe s ((sts s x).getD (exC s R x a b).2 0)).1 a b
/-- what is written is so long, has that word, and is read -/
structure Wrt (t : ByteArray) (L : List Int) (v : Nat) (ws : List Int) (rd : Nat → Option (Nat × Nat)) : Prop where
  len : L.length = v
  let_ : L.filter (fun c => cL c) = ws
  read : ∀ i, At t i L → ∃ h, rd i = some (i + v, h)
section
variable {s t u : ByteArray} {R X W : Tb}
def SaidW (s t u : ByteArray) (R X W : Tb) (n : Nat) : Prop :=
  ∀ x a b, x < s.size → begs s x = true → a ≤ b → b ≤ u.size → X x a b ≤ n → X x a b ≤ 2000 → ∀ N, n ≤ N → Wrt t (wrE s u R X W n x a b) (X x a b) (ws u a b) (pE s t 0 N x)
theorem wrR_ok (fx : Fix s u R X W) {n N x : Nat} {c : Int} {many : Bool} (hc : cL c = false) (hc0 : c ≠ 0) (hc44 : c ≠ 44) (hm : many = true) (hx : x < s.size) (hb : begs s x = true) (hN : n ≤ N) (ih : SaidW s t u R X W n) :
    ∀ m a b, b - a < m → a ≤ b → b ≤ u.size → W x a b ≤ n → W x a b ≤ 2000 →
      (wrR X W (wrE s u R X W n x) x m a b).length = W x a b ∧ (wrR X W (wrE s u R X W n x) x m a b).filter (fun c => cL c) = ws u a b ∧
      ∀ i, At t i (wrR X W (wrE s u R X W n x) x m a b ++ [c]) → ∀ M top cnt, t.size - i ≤ M → ∃ h, pEl t (pE s t 0 N x) c many 0 M i top cnt = some (i + W x a b + 1, h)
  | 0, a, b, h1, h2, h3, h4, h5 => by omega
  | m + 1, a, b, h1, h2, h3, h4, h5 => by
    have hW := (fx.fix a b h2 h3).row x hx hb
    unfold wrR
    rcases rwC_cases (X := X) (W := W) x a b with k | ⟨e, k1, k2, k3⟩
    · rw [k] at hW ⊢
      simp only at hW ⊢
      rw [if_neg (by omega), List.append_nil]
      obtain ⟨w1, w2, w3⟩ := ih x a b hx hb h2 h3 (by omega) (by omega) N hN
      refine ⟨by omega, w2, fun i hA M top cnt hM => ?_⟩
      obtain ⟨h, hr⟩ := w3 i hA.left
      have hbt : bt t (i + (wrE s u R X W n x a b).length : Nat) = c := hA.right.head
      rw [w1] at hbt
      have := bt_lt (s := t) (p := i + X x a b) (by omega)
      obtain ⟨M', rfl⟩ : ∃ M', M = M' + 1 := ⟨M - 1, by omega⟩
      refine ⟨max top h, ?_⟩
      unfold pEl
      rw [hr]
      simp only
      rw [if_neg (by omega), if_pos hbt, hW]
    · rw [k3] at hW ⊢
      simp only at hW ⊢
      rw [if_pos k2]
      obtain ⟨w1, w2, w3⟩ := ih x a e hx hb (by omega) (by omega) (by omega) (by omega) N hN
      obtain ⟨r1, r2, r3⟩ := wrR_ok fx hc hc0 hc44 hm hx hb hN ih m e b (by omega) (by omega) h3 (by omega) (by omega)
      refine ⟨by simp; omega, ?_, fun i hA M top cnt hM => ?_⟩
      · rw [List.filter_append, w2, List.filter_cons_of_neg (by decide), r2, ← ws_join (by omega) (by omega)]
      · have hA' : At t i (wrE s u R X W n x a e ++ (44 :: (wrR X W (wrE s u R X W n x) x m e b ++ [c]))) := by simpa using hA
        obtain ⟨h, hr⟩ := w3 i hA'.left
        have hA2 := hA'.right
        rw [w1] at hA2
        have hbt : bt t (i + X x a e : Nat) = 44 := hA2.head
        have := bt_lt (s := t) (p := i + X x a e) (by omega)
        obtain ⟨M', rfl⟩ : ∃ M', M = M' + 1 := ⟨M - 1, by omega⟩
        obtain ⟨h', hr'⟩ := r3 (i + X x a e + 1) hA2.tail M' (max top h) (cnt + 1) (by omega)
        refine ⟨h', ?_⟩
        unfold pEl
        rw [hr]
        simp only
        rw [if_neg (by omega), if_neg (by omega), if_pos ⟨hbt, hm⟩, hr', hW]
        congr 2; omega
theorem pE_digit {n x i : Nat} {r : Nat × Nat} (h : pE s t 0 n x i = some r) : cD (bt t i) = true := by
  cases n with
  | zero => cases h
  | succ n =>
    unfold pE at h
    split at h
    · assumption
    · cases h
theorem pEl_digit {n x m i top : Nat} {c cnt : Int} {many : Bool} {r : Nat × Nat} (h : pEl t (pE s t 0 n x) c many 0 m i top cnt = some r) : cD (bt t i) = true := by
  cases m with
  | zero => cases h
  | succ m =>
    unfold pEl at h
    cases hq : pE s t 0 n x i with
    | none => rw [hq] at h; cases h
    | some q => exact pE_digit hq
theorem digit_cC {c d : Int} (h : cD c = true) : ¬ c = cC d := by
  have := cC_vals d
  have : 48 ≤ c ∧ c ≤ 57 := by simpa [cD] using h
  omega
theorem wrF_ok (fx : Fix s u R X W) (g : Gram s) (ins : Ins s) {n N f a b : Nat} (hN : n ≤ N) (ih : SaidW s t u R X W n) (hf : isF s f = true) (h2 : a ≤ b) (h3 : b ≤ u.size) (hv : fcC s u X W f a b ≤ 2000) (hn : fcC s u X W f a b ≤ n + 1) :
    Wrt t (wrF s X W (wrE s u R X W n) f a b) (fcC s u X W f a b) (ws u a b) (pF s t 0 (pE s t 0 N) f) := by
  unfold fcC at hv hn ⊢
  unfold wrF
  by_cases hl : cL (bt s f) = true
  · rw [if_pos hl] at hv hn ⊢
    have hnl : cN (bt s f) = false := by
      have : 97 ≤ bt s f ∧ bt s f ≤ 122 := by simpa [cL] using hl
      simp [cN]; omega
    have hol : cO (bt s f) = false := by
      cases e : cO (bt s f)
      · rfl
      · have := cO_vals e; have : 97 ≤ bt s f ∧ bt s f ≤ 122 := by simpa [cL] using hl
        omega
    split at hv
    · rename_i hc
      rw [if_pos hc, if_neg (by simp [hnl]), if_neg (by simp [hol])]
      obtain ⟨hc1, hc2⟩ := hc
      subst hc1
      refine ⟨rfl, ?_, fun i hA => ?_⟩
      · rw [List.filter_cons_of_pos (by simpa using hl)]
        unfold ws; rw [show a + 1 - a = 1 by omega]; simp [hc2]
      · refine ⟨0, ?_⟩
        unfold pF
        rw [if_neg (by have := hA.head; omega), if_pos hl]
    · omega
  rw [if_neg hl] at hv hn ⊢
  have hl' : cL (bt s f) = false := by simpa using hl
  obtain ⟨hx, hb⟩ := wi_begs g ins hf hl'
  by_cases hnm : cN (bt s f) = true
  · rw [if_pos hnm] at hv hn ⊢
    rw [if_pos hnm]
    have hvn : 65 ≤ bt s f ∧ bt s f ≤ 90 := by simpa [cN] using hnm
    have hI : wrI s X W (wrE s u R X W n) f a b = wrE s u R X W n (wi s f) a b := by
      unfold wrI; rw [if_neg (by omega), if_neg (by omega)]
    rw [hI]
    obtain ⟨w1, w2, w3⟩ := ih (wi s f) a b hx hb h2 h3 (by omega) (by omega) N hN
    refine ⟨by simp; omega, ?_, fun i hA => ?_⟩
    · rw [List.filter_cons_of_neg (by simpa using hl'), List.filter_cons_of_neg (by decide), List.filter_append, w2]
      simp [cL]
    · obtain ⟨h, hr⟩ := w3 (i + 1 + 1) hA.tail.tail.left
      have h40 : bt t ((i + 1 : Nat) : Int) = 40 := hA.tail.head
      have h41 : bt t ((i + 1 + 1 + X (wi s f) a b : Nat) : Int) = 41 := by
        have := hA.tail.tail.right.head; rw [w1] at this; exact this
      refine ⟨h + 1, ?_⟩
      unfold pF
      rw [if_neg (by have := hA.head; omega), if_neg hl, if_pos hnm]
      unfold pN
      rw [if_neg (by omega)]
      have hwi : (rl s (bt s f) + 2).toNat = wi s f := by unfold wi; rw [if_pos hnm]
      rw [hwi, hr]
      simp only
      rw [if_pos h41]
      congr 2; omega
  · rw [if_neg hnm] at hv hn ⊢
    have hn' : cN (bt s f) = false := by simpa using hnm
    have hc0 := isF_cC hf hl' hn'
    have ho : cO (bt s f) = true := by simp [cO, hc0]
    have hov := cO_vals ho
    have hc44 : cC (bt s f) ≠ 44 := by have := cC_vals (bt s f); omega
    rw [if_neg hnm, if_pos ho]
    unfold wrI
    have hwi := wi_open (s := s) (f := f) hn'
    rw [hwi] at hx hb hv hn ⊢
    have hfirst : ∀ i, At t i (bt s f :: ([] : List Int)) → ∀ r, pB s t 0 (pE s t 0 N) f (i + 1) = r → pF s t 0 (pE s t 0 N) f i = r := by
      intro i hA r hr
      unfold pF
      rw [if_neg (by have := hA.head; omega), if_neg hl, if_neg hnm, hr]
    by_cases hem : (bt s f = 91 ∨ bt s f = 123) ∧ a = b
    · rw [if_pos hem, if_pos hem]
      refine ⟨rfl, ?_, fun i hA => ⟨0, ?_⟩⟩
      · have : ws u a b = [] := by unfold ws; rw [hem.2]; simp
        rw [this, List.filter_cons_of_neg (by simpa using hl')]
        simp [cL_cC]
      · refine hfirst i (At.left (A := [bt s f]) (B := [cC (bt s f)]) hA) _ ?_
        unfold pB
        rw [if_pos ⟨hA.tail.head, hem.1⟩]
    · rw [if_neg hem] at hv hn ⊢
      rw [if_neg hem]
      by_cases hls : bt s f = 123 ∨ bt s f = 60
      · rw [if_pos hls] at hv hn ⊢
        rw [if_pos hls]
        obtain ⟨w1, w2, w3⟩ := wrR_ok (t := t) (many := true) fx (cL_cC (bt s f)) hc0 hc44 rfl hx hb hN ih (b - a + 1) a b (by omega) h2 h3 (by omega) (by omega)
        refine ⟨by simp; omega, ?_, fun i hA => ?_⟩
        · rw [List.filter_cons_of_neg (by simpa using hl'), List.filter_append, w2]
          simp [cL_cC]
        · obtain ⟨h, hr⟩ := w3 (i + 1) hA.tail (t.size - (i + 1)) 0 0 (Nat.le_refl _)
          refine ⟨h, hfirst i (At.left (A := [bt s f]) hA) _ ?_⟩
          unfold pB
          rw [if_neg, show decide (bt s f = 123 ∨ bt s f = 60) = true by simpa using hls, hr]
          · congr 2; omega
          · exact fun h => digit_cC (pEl_digit hr) h.1
      · rw [if_neg hls] at hv hn ⊢
        rw [if_neg hls]
        obtain ⟨w1, w2, w3⟩ := ih (f + 1) a b hx hb h2 h3 (by omega) (by omega) N hN
        refine ⟨by simp; omega, ?_, fun i hA => ?_⟩
        · rw [List.filter_cons_of_neg (by simpa using hl'), List.filter_append, w2]
          simp [cL_cC]
        · obtain ⟨h, hr⟩ := w3 (i + 1) hA.tail.left
          have hbt : bt t ((i + 1 + X (f + 1) a b : Nat) : Int) = cC (bt s f) := by
            have := hA.tail.right.head; rw [w1] at this; exact this
          refine ⟨h, hfirst i (At.left (A := [bt s f]) hA) _ ?_⟩
          unfold pB
          rw [if_neg, show decide (bt s f = 123 ∨ bt s f = 60) = false by simpa using hls, pEl_one (fun h => pE_out h), hr]
          · simp only
            rw [if_pos hbt]
            congr 2; omega
          · exact fun h => digit_cC (pE_digit hr) h.1
theorem wrFs_ok (fx : Fix s u R X W) (g : Gram s) (ins : Ins s) {n N : Nat} (hN : n ≤ N) (ih : SaidW s t u R X W n) :
    ∀ M p a b, s.size - p ≤ M → p < s.size → a ≤ b → b ≤ u.size → R p a b ≤ 2000 → R p a b ≤ n →
      (wrFs s u R X W (wrF s X W (wrE s u R X W n)) (fe s p).1 a b).length = R p a b ∧ (wrFs s u R X W (wrF s X W (wrE s u R X W n)) (fe s p).1 a b).filter (fun c => cL c) = ws u a b ∧
      ∀ i top, At t i (wrFs s u R X W (wrF s X W (wrE s u R X W n)) (fe s p).1 a b) → ∃ h, pFs (pF s t 0 (pE s t 0 N)) (fe s p).1 i top = some (i + R p a b, h)
  | 0, p, a, b, hM, hp, h2, h3, hv, hn => by omega
  | M + 1, p, a, b, hM, hp, h2, h3, hv, hn => by
    have hR := (fx.fix a b h2 h3).rest p hp
    cases hf : isF s p
    · rw [fe_no hf]
      have hR' := hR
      unfold rsC at hR'
      rw [if_neg (by simp [hf])] at hR'
      simp only at hR'
      split at hR'
      · rename_i hab
        rw [hR']
        refine ⟨rfl, ?_, fun i top _ => ⟨top, rfl⟩⟩
        simp [wrFs, ws, hab]
      · omega
    · obtain ⟨e, k1, k2, k3⟩ := rsC_cases (u := u) (R := R) (X := X) (W := W) (a := a) (b := b) hf (by omega)
      have hin := ins.beh p hf
      have hbh := bh_bd hf
      rw [k3] at hR
      simp only at hR
      have hpos := fcC_pos (s := s) (u := u) (X := X) (W := W) (f := p) (a := a) (b := e)
      obtain ⟨w1, w2, w3⟩ := wrF_ok (t := t) (N := N) fx g ins hN ih hf k1 (by omega) (by omega) (by omega)
      obtain ⟨r1, r2, r3⟩ := wrFs_ok fx g ins hN ih M (bh s p) e b (by omega) hin k2 h3 (by omega) (by omega)
      rw [fe_yes hf]
      unfold wrFs
      rw [k3]
      simp only
      refine ⟨by simp; omega, ?_, fun i top hA => ?_⟩
      · rw [List.filter_append, w2, r2, ← ws_join k1 k2]
      · obtain ⟨h, hr⟩ := w3 i hA.left
        have hA2 := hA.right
        rw [w1] at hA2
        obtain ⟨h', hr'⟩ := r3 _ (max top h) hA2
        refine ⟨h', ?_⟩
        unfold pFs
        rw [hr]
        simp only
        rw [hr', hR]
        congr 2; omega
theorem wrE_ok (fx : Fix s u R X W) (g : Gram s) (ins : Ins s) : ∀ n, SaidW s t u R X W n
  | 0, x, a, b, hx, hb, h2, h3, hn, hv, N, hN => by
    have hX := (fx.fix a b h2 h3).expr x hx hb
    obtain ⟨k, p, k1, k2, k3⟩ := exC_cases (s := s) (R := R) (x := x) (a := a) (b := b) (by omega)
    rw [k3] at hX
    simp only at hX
    omega
  | n + 1, x, a, b, hx, hb, h2, h3, hn, hv, N, hN => by
    have ih : SaidW s t u R X W n := wrE_ok fx g ins n
    have hX := (fx.fix a b h2 h3).expr x hx hb
    obtain ⟨k, p, k1, k2, k3⟩ := exC_cases (s := s) (R := R) (x := x) (a := a) (b := b) (by omega)
    rw [k3] at hX
    simp only at hX
    obtain ⟨N', rfl⟩ : ∃ N', N = N' + 1 := ⟨N - 1, by omega⟩
    obtain ⟨r1, r2, r3⟩ := wrFs_ok (t := t) (N := N') fx g ins (by omega) ih _ p a b (Nat.le_refl _) (ap_ins ins hx k1) h2 h3 (by omega) (by omega)
    have hk : k ≤ 9 := by
      have h1 : k < (sts s x).length := by
        rw [sts_ap] at k1; exact (List.getElem?_eq_some_iff.1 k1).1
      have h2 : (sts s x).length ≤ 10 := ins.few x hb
      omega
    unfold wrE
    rw [k3]
    simp only
    rw [k2]
    refine ⟨by simp; omega, ?_, fun i hA => ?_⟩
    · rw [List.filter_cons_of_neg (by simp [cL]; omega), r2]
    · have hd : bt t i = 48 + (k : Int) := hA.head
      obtain ⟨h, hr⟩ := r3 (i + 1) 0 hA.tail
      refine ⟨h, ?_⟩
      unfold pE
      rw [if_pos (by rw [hd]; simp [cD]; omega), hd, show (48 + (k : Int) - 48).toNat = k by omega, k1]
      simp only
      rw [hr, hX]
      congr 2; omega
/-- bytes of a text -/
theorem tl_all {L : List Int} (hA : At t 0 L) (hl : t.size = L.length) : tl t 0 t.size = L.filter fun c => cL c := by
  unfold tl
  congr 1
  apply List.ext_getElem
  · simp [hl]
  · intro k h1 h2
    have := hA k h2
    simp at this ⊢
    exact this
/-- what is written of the start -/
def wrS (s u : ByteArray) (R X W : Tb) : List Int := wrF s X W (wrE s u R X W (fcC s u X W 0 0 u.size)) 0 0 u.size
/-- the text that is written is a tree of the grammar, and has the word -/
theorem written_ok (fx : Fix s u R X W) (g : Gram s) (ins : Ins s) (hs : isF s 0 = true) (hv : fcC s u X W 0 0 u.size ≤ 2000) (hA : At t 0 (wrS s u R X W)) (hl : t.size = (wrS s u R X W).length) :
    (∃ h, whole s t 0 = some h) ∧ tl t 0 t.size = ws u 0 u.size := by
  have hw := fun N hN => wrF_ok (t := t) (n := fcC s u X W 0 0 u.size) (N := N) fx g ins hN (wrE_ok fx g ins _) hs (Nat.zero_le _) (Nat.le_refl _) hv (by omega)
  have h1 : (wrS s u R X W).length = fcC s u X W 0 0 u.size := (hw _ (Nat.le_refl _)).len
  obtain ⟨_, w2, w3⟩ := hw (t.size + 1) (by omega)
  obtain ⟨h, hr⟩ := w3 0 hA
  refine ⟨⟨h, ?_⟩, by rw [tl_all hA hl]; exact w2⟩
  unfold whole
  rw [if_neg (by omega), hr]
  simp only
  rw [if_pos (by omega)]
end
end Go.Proofs.Ytnfaiaoipeholaa
/- Parse's answer (P8). No Go here. -/
namespace Go.Proofs.Ytnfaiaoipeholaa
/-- letters alone -/
def ltF (u : ByteArray) : Nat → Nat → Bool
  | 0, _ => true
  | n + 1, i => cL (bt u i) && ltF u n (i + 1)
/-- a word -/
def isW (u : ByteArray) : Bool := decide (¬ 20 < u.size) && ltF u u.size 0
/-- a way to name the chart where there is one -/
structure Chr where
  tb : ByteArray → ByteArray → Tb × Tb × Tb
  is : ∀ (s u : ByteArray) (R X W : Tb), Fix s u R X W → tb s u = (R, X, W)
theorem chr_some : Nonempty Chr := by
  classical exact ⟨⟨fun s u => if h : ∃ t : Tb × Tb × Tb, Fix s u t.1 t.2.1 t.2.2 then h.choose else (fun _ _ _ => 0, fun _ _ _ => 0, fun _ _ _ => 0), fun s u R X W fx => by
    have h : ∃ t : Tb × Tb × Tb, Fix s u t.1 t.2.1 t.2.2 := ⟨(R, X, W), fx⟩
    rw [dif_pos h]
    obtain ⟨h1, h2, h3⟩ := fix_one h.choose_spec fx
    exact Prod.ext h1 (Prod.ext h2 h3)⟩⟩
/-- the chart -/
def tabs [Inhabited Chr] (s u : ByteArray) : Tb × Tb × Tb := (default : Chr).tb s u
theorem tabs_eq [Inhabited Chr] {s u : ByteArray} {R X W : Tb} (fx : Fix s u R X W) : tabs s u = (R, X, W) := (default : Chr).is s u R X W fx
/-- there is a chart -/
def HasFix (s u : ByteArray) : Prop := ∃ R X W, Fix s u R X W
/-- a tree of a word -/
def prsR [Inhabited Chr] (s u : ByteArray) : ByteArray × Int :=
  if isW u = false then (⟨#[]⟩, 12)
  else if 2000 < fcC s u (tabs s u).2.1 (tabs s u).2.2 0 0 u.size then (⟨#[]⟩, 13)
  else (strOfNums (wrS s u (tabs s u).1 (tabs s u).2.1 (tabs s u).2.2), 0)
/-- P8 -/
def prs [Inhabited Chr] (s u : ByteArray) : ByteArray × Int := if (chk s).1 ≠ 0 then (⟨#[]⟩, (chk s).1) else prsR s u
end Go.Proofs.Ytnfaiaoipeholaa
/- Parse's answer is as P8 asks. No Go here. -/
namespace Go.Proofs.Ytnfaiaoipeholaa
section
variable {s u : ByteArray} {R X W : Tb}
theorem wrFs_byts {g : Nat → Nat → Nat → List Int} : ∀ (l : List Nat) (a b : Nat), (∀ f ∈ l, ∀ a b, Byts (g f a b)) → Byts (wrFs s u R X W g l a b)
  | [], a, b, h => Byts.nil
  | f :: l, a, b, h => by
    unfold wrFs
    exact (h f (by simp) _ _).app (wrFs_byts l _ _ (fun f' hf => h f' (by simp [hf])))
theorem wrR_byts {rec : Nat → Nat → List Int} {x : Nat} (h : ∀ a b, Byts (rec a b)) : ∀ m a b, Byts (wrR X W rec x m a b)
  | 0, a, b => Byts.nil
  | m + 1, a, b => by
    unfold wrR
    refine (h _ _).app ?_
    split
    · exact Byts.cons (by omega) (wrR_byts h m _ _)
    · exact Byts.nil
theorem wrF_byts (g : Gram s) (ins : Ins s) {rec : Nat → Nat → Nat → List Int} (h : ∀ x a b, begs s x = true → Byts (rec x a b)) {f : Nat} (hf : isF s f = true) (a b : Nat) : Byts (wrF s X W rec f a b) := by
  unfold wrF
  refine Byts.cons (bt_byte s f) ?_
  have hI : cL (bt s f) = false → Byts (wrI s X W rec f a b) := fun hl => by
    have hb := (wi_begs g ins hf hl).2
    unfold wrI
    split
    · exact Byts.nil
    split
    · exact wrR_byts (fun a b => h _ a b hb) _ _ _
    · exact h _ _ _ hb
  split
  · rename_i hn
    have hl : cL (bt s f) = false := by
      have : 65 ≤ bt s f ∧ bt s f ≤ 90 := by simpa [cN] using hn
      simp [cL]; omega
    exact Byts.cons (by omega) ((hI hl).app (Byts.cons (by omega) Byts.nil))
  · split
    · rename_i ho
      have hl : cL (bt s f) = false := by
        have := cO_vals ho
        simp [cL]; omega
      exact (hI hl).app (Byts.cons (cC_bd _) Byts.nil)
    · exact Byts.nil
theorem wrE_byts (g : Gram s) (ins : Ins s) : ∀ n x a b, begs s x = true → Byts (wrE s u R X W n x a b)
  | 0, x, a, b, hb => Byts.nil
  | n + 1, x, a, b, hb => by
    unfold wrE
    have hk : (exC s R x a b).2 ≤ 9 := by
      have h10 := ins.few x hb
      rcases bst_cases (fun k => R ((sts s x).getD k 0) a b + 1) (sts s x).length 0 (2001, 0) with e | ⟨j, h1, h2, h3, _⟩
      · unfold exC; rw [e]; simp
      · unfold exC; rw [h3]; simp only; omega
    refine Byts.cons (by omega) (wrFs_byts _ _ _ (fun f hf a b => wrF_byts g ins (wrE_byts g ins n) (fe_mem hf).1 a b))
theorem seg_rng (t : ByteArray) : ∀ n i, segF t n i = (List.range' i n).map fun k : Nat => bt t k
  | 0, i => rfl
  | n + 1, i => by
    show bt t i :: segF t n (i + 1) = _
    rw [seg_rng t n (i + 1)]; rfl
/-- the letters -/
def wd (t : ByteArray) : ByteArray := strOfNums ((seg t 0 t.size).filter cL)
theorem wd_size (t : ByteArray) : (wd t).size ≤ t.size := by
  unfold wd seg
  rw [strOfNums_size]
  refine Nat.le_trans (List.length_filter_le _ _) ?_
  rw [segF_len]; omega
theorem wd_tl (t : ByteArray) : wd t = strOfNums (tl t 0 t.size) := by
  unfold wd tl seg
  rw [seg_rng]
theorem ws_all (u : ByteArray) : ws u 0 u.size = seg u 0 u.size := by unfold ws seg; rw [seg_rng]
theorem strs_ws (u : ByteArray) : strOfNums (ws u 0 u.size) = u := by rw [ws_all, strs_seg]
theorem tl_byts (t : ByteArray) (i j : Nat) : Byts (tl t i j) := fun x hx => by
  unfold tl at hx
  rw [List.mem_filter, List.mem_map] at hx
  obtain ⟨⟨k, _, rfl⟩, _⟩ := hx
  exact bt_byte t k
theorem ws_strs {L : List Int} (h : Byts L) : ws (strOfNums L) 0 (strOfNums L).size = L := by
  apply List.ext_getElem
  · rw [ws_len, strOfNums_size]; omega
  · intro k h1 h2
    have := bt_strs h h2
    simp only [ws, List.getElem_map, List.getElem_range']
    rw [Nat.zero_add, Nat.one_mul]; exact this
/-- the word, said in two ways -/
theorem wd_iff (t u : ByteArray) : wd t = u ↔ tl t 0 t.size = ws u 0 u.size := by
  constructor
  · intro h
    rw [wd_tl] at h
    rw [← h, ws_strs (tl_byts _ _ _)]
  · intro h
    rw [wd_tl, h, strs_ws]
theorem ltF_of (u : ByteArray) : ∀ n i, (∀ k : Nat, i ≤ k → k < i + n → cL (bt u k) = true) → ltF u n i = true
  | 0, i, h => rfl
  | n + 1, i, h => by
    unfold ltF
    rw [h i (Nat.le_refl _) (by omega), ltF_of u n (i + 1) (fun k h1 h2 => h k (by omega) (by omega))]; rfl
theorem ltF_at (u : ByteArray) : ∀ n i, ltF u n i = true → ∀ k : Nat, i ≤ k → k < i + n → cL (bt u k) = true
  | 0, i, h, k, h1, h2 => by omega
  | n + 1, i, h, k, h1, h2 => by
    unfold ltF at h
    have h' : cL (bt u i) = true ∧ ltF u n (i + 1) = true := by simpa using h
    by_cases e : k = i
    · subst e; exact h'.1
    · exact ltF_at u n (i + 1) h'.2 k (by omega) (by omega)
/-- a word is its own letters -/
theorem wd_self {u : ByteArray} : wd u = u ↔ ltF u u.size 0 = true := by
  constructor
  · intro h
    rw [wd_iff] at h
    refine ltF_of u _ _ (fun k h1 h2 => ?_)
    have hm : bt u k ∈ ws u 0 u.size := by
      unfold ws
      rw [List.mem_map]
      exact ⟨k, by rw [List.mem_range'_1]; omega, rfl⟩
    rw [← h] at hm
    unfold tl at hm
    exact (List.mem_filter.1 hm).2
  · intro h
    rw [wd_iff]
    unfold tl ws
    refine List.filter_eq_self.2 (fun x hx => ?_)
    rw [List.mem_map] at hx
    obtain ⟨k, hk, rfl⟩ := hx
    rw [List.mem_range'_1] at hk
    exact ltF_at u _ _ h k (by omega) (by omega)
theorem isW_iff {u : ByteArray} : isW u = true ↔ u.size ≤ 20 ∧ wd u = u := by
  rw [wd_self]
  unfold isW
  simp
theorem whole_hgt {t : ByteArray} {h : Nat} (hk : (chk s).1 = 0) (hw : whole s t 0 = some h) : hgt s t = ((h : Int), 0) := by
  unfold hgt; rw [if_neg (by simp [hk]), hw]
theorem hgt_whole {t : ByteArray} (h : (hgt s t).2 = 0) : (chk s).1 = 0 ∧ ∃ n, whole s t 0 = some n ∧ (hgt s t).1 = (n : Int) := by
  unfold hgt at h ⊢
  by_cases hk : (chk s).1 = 0
  · rw [if_neg (by simp [hk])] at h ⊢
    cases hw : whole s t 0 with
    | none => rw [hw] at h; simp at h
    | some n => exact ⟨hk, n, rfl, rfl⟩
  · rw [if_pos hk] at h; exact absurd h hk
theorem start_f (g : Gram s) : isF s 0 = true := by
  have := (g.rule 0 g.pos (by simp [begB])).1
  unfold isF; rw [this]; simp
/-- P8 -/
theorem prs_ok [Inhabited Chr] (hk : (chk s).1 = 0) (hw : isW u = true) (hx : HasFix s u) :
    ((prs s u).2 = 0 ∧ (hgt s (prs s u).1).2 = 0 ∧ wd (prs s u).1 = u ∧ (prs s u).1.size ≤ 2000) ∨
    ((prs s u).2 = 13 ∧ (prs s u).1 = ⟨#[]⟩ ∧ ∀ t, (hgt s t).2 = 0 → wd t ≠ u) := by
  have g := gram_of hk
  have ins := ins_chk hk
  have hf := start_f g
  obtain ⟨R, X, W, fx⟩ := hx
  have e : prs s u = if 2000 < fcC s u X W 0 0 u.size then (⟨#[]⟩, 13) else (strOfNums (wrS s u R X W), 0) := by
    unfold prs prsR
    rw [if_neg (by simp [hk]), if_neg (by rw [hw]; decide), tabs_eq fx]
  by_cases hb : 2000 < fcC s u X W 0 0 u.size
  · right
    rw [if_pos hb] at e
    rw [e]
    refine ⟨rfl, rfl, fun t ht hwd => ?_⟩
    obtain ⟨_, n, hn, _⟩ := hgt_whole ht
    have := whole_cost fx g ins hf hn ((wd_iff t u).1 hwd)
    omega
  · left
    rw [if_neg hb] at e
    rw [e]
    have hB : Byts (wrS s u R X W) := wrF_byts g ins (wrE_byts g ins _) hf _ _
    obtain ⟨⟨h, h1⟩, h2⟩ := written_ok (t := strOfNums (wrS s u R X W)) fx g ins hf (by omega) (At.strs hB) (strOfNums_size _)
    have hl := (wrF_ok (t := s) (n := fcC s u X W 0 0 u.size) (N := fcC s u X W 0 0 u.size) fx g ins (Nat.le_refl _) (wrE_ok fx g ins _) hf (Nat.zero_le _) (Nat.le_refl _) (by omega) (by omega)).len
    refine ⟨rfl, by rw [whole_hgt hk h1], (wd_iff _ u).2 h2, ?_⟩
    show (strOfNums (wrS s u R X W)).size ≤ 2000
    rw [strOfNums_size]; unfold wrS; omega
theorem prs_bad [Inhabited Chr] (hk : (chk s).1 ≠ 0) : prs s u = (⟨#[]⟩, (chk s).1) := by unfold prs; rw [if_pos hk]
theorem prs_word [Inhabited Chr] (hk : (chk s).1 = 0) (hw : isW u = false) : prs s u = (⟨#[]⟩, 12) := by
  unfold prs prsR; rw [if_neg (by simp [hk]), if_pos hw]
end
end Go.Proofs.Ytnfaiaoipeholaa
/- What Parse answers, as the laws use it. No Go here. -/
namespace Go.Proofs.Ytnfaiaoipeholaa
section
variable {s t u : ByteArray}
theorem isW_wd (h : (wd t).size ≤ 20) : isW (wd t) = true := by
  rw [isW_iff]
  refine ⟨h, wd_self.2 (ltF_of _ _ _ (fun k h1 h2 => ?_))⟩
  rw [wd_tl] at h2 ⊢
  rw [strOfNums_size] at h2
  rw [bt_strs (tl_byts _ _ _) (by omega)]
  have := List.getElem_mem (l := tl t 0 t.size) (n := k) (by omega)
  unfold tl at this
  exact (List.mem_filter.1 this).2
theorem whole_pos (g : Gram s) {n : Nat} (h : whole s t 0 = some n) : 1 ≤ n := by
  have hN := (g.rule 0 g.pos (by simp [begB])).1
  unfold whole at h
  split at h
  · cases h
  unfold pF at h
  split at h
  · cases h
  · rename_i j n' hq
    split at h
    · rw [Option.some.injEq] at h
      subst h
      split at hq
      · cases hq
      split at hq
      · rename_i hl
        have : 65 ≤ bt s (0 : Nat) ∧ bt s (0 : Nat) ≤ 90 := by simpa [cN] using hN
        have : 97 ≤ bt s (0 : Nat) ∧ bt s (0 : Nat) ≤ 122 := by simpa [cL] using hl
        omega
      · unfold pN at hq
        split at hq
        · cases hq
        · split at hq
          · cases hq
          · split at hq
            · simp at hq; omega
            · cases hq
    · cases h
/-- what Parse answers of a word -/
theorem prs_said [Inhabited Chr] (hx : (chk s).1 = 0 → isW u = true → HasFix s u) : ((prs s u).2 ≠ 0 ∧ (prs s u).1 = ⟨#[]⟩) ∨ ((prs s u).2 = 0 ∧ (prs s u).1.size ≤ 2000 ∧ wd (prs s u).1 = u ∧ ∃ n : Nat, 1 ≤ n ∧ hgt s (prs s u).1 = ((n : Int), 0)) := by
  by_cases hk : (chk s).1 = 0
  · cases hw : isW u
    · rw [prs_word hk hw]; exact .inl ⟨by simp, rfl⟩
    · rcases prs_ok hk hw (hx hk hw) with ⟨h1, h2, h3, h4⟩ | ⟨h1, h2, _⟩
      · right
        obtain ⟨_, n, hn, _⟩ := hgt_whole h2
        exact ⟨h1, h4, h3, n, whole_pos (gram_of hk) hn, whole_hgt hk hn⟩
      · left; exact ⟨by rw [h1]; simp, h2⟩
  · rw [prs_bad hk]; exact .inl ⟨hk, rfl⟩
/-- a word that has a tree is parsed -/
theorem prs_has [Inhabited Chr] (hx : (chk s).1 = 0 → isW (wd t) = true → HasFix s (wd t)) (hz : (wd t).size ≤ 20) (ht : (hgt s t).2 = 0) : (prs s (wd t)).2 = 0 := by
  obtain ⟨hk, _⟩ := hgt_whole ht
  have hw := isW_wd hz
  rcases prs_ok hk hw (hx hk hw) with ⟨h1, _⟩ | ⟨_, _, h3⟩
  · exact h1
  · exact absurd rfl (h3 t ht)
theorem prs_long [Inhabited Chr] (ht : (hgt s t).2 = 0) (hz : ¬ (wd t).size ≤ 20) : prs s (wd t) = (⟨#[]⟩, 12) := by
  obtain ⟨hk, _⟩ := hgt_whole ht
  refine prs_word hk ?_
  cases h : isW (wd t)
  · rfl
  · exact absurd (isW_iff.1 h).1 hz
end
end Go.Proofs.Ytnfaiaoipeholaa
