/- Where a tree's brackets close; the reference's count of elements. No Go here. -/
import Derived.Test.YtnfaiaoipeholaaRecMath3
namespace Go.Proofs.Ytnfaiaoipeholaa
/-- a scan that only follows the depth, as long as it is not 0 -/
def Scans (t : ByteArray) (G : Nat → Int → Nat) : Prop := ∀ (i : Nat) (d : Int), i < t.size → 0 < d → 0 < dpt (bt t i) d → G i d = G (i + 1) (dpt (bt t i) d)
section
variable {s t : ByteArray} {most : Int} {G : Nat → Int → Nat}
theorem Scans.plain (hG : Scans t G) {i : Nat} {d : Int} (h : i < t.size) (hd : 0 < d) (h1 : cO (bt t i) = false) (h2 : cX (bt t i) = false) : G i d = G (i + 1) d := by
  have e : dpt (bt t i) d = d := by simp [dpt, h1, h2]
  rw [hG i d h hd (by omega), e]
theorem Scans.opens (hG : Scans t G) {i : Nat} {d : Int} (hd : 0 < d) (h1 : cO (bt t i) = true) : G i d = G (i + 1) (d + 1) := by
  have hl : i < t.size := bt_lt (by intro e; rw [e] at h1; revert h1; decide)
  have e : dpt (bt t i) d = d + 1 := by simp [dpt, h1]
  rw [hG i d hl hd (by omega), e]
theorem Scans.closes (hG : Scans t G) {i : Nat} {d : Int} (hd : 1 < d) (h1 : cX (bt t i) = true) : G i d = G (i + 1) (d - 1) := by
  have hl : i < t.size := bt_lt (by intro e; rw [e] at h1; revert h1; decide)
  obtain ⟨_, _, h2, _⟩ := close_not h1
  have e : dpt (bt t i) d = d - 1 := by simp [dpt, h1, h2]
  rw [hG i d hl (by omega) (by omega), e]
def GSkip (G : Nat → Int → Nat) (i j : Nat) : Prop := ∀ d : Int, 0 < d → G i d = G j d
theorem pEl_gskip (hG : Scans t G) {rec : Nat → Option (Nat × Nat)} {b : Int} {many : Bool} (hr : ∀ i j h, rec i = some (j, h) → GSkip G i j) :
    ∀ m i top cnt j h, pEl t rec b many most m i top cnt = some (j, h) → ∃ a, j = a + 1 ∧ bt t a = b ∧ GSkip G i a
  | 0, i, top, cnt, j, h, e => by cases e
  | m + 1, i, top, cnt, j, h, e => by
    unfold pEl at e
    cases hq : rec i with
    | none => rw [hq] at e; cases e
    | some q =>
      obtain ⟨a, k⟩ := q
      rw [hq] at e
      simp only at e
      have hs := hr i a k hq
      split at e
      · cases e
      split at e
      · rename_i hbb
        simp only [Option.some.injEq, Prod.mk.injEq] at e
        exact ⟨a, e.1.symm, hbb, hs⟩
      split at e
      · rename_i hc
        obtain ⟨a', e1, e2, e3⟩ := pEl_gskip hG hr m (a + 1) (max top k) (cnt + 1) j h e
        have hl : a < t.size := bt_lt (by omega)
        refine ⟨a', e1, e2, fun d hd => ?_⟩
        rw [hs d hd, hG.plain hl hd (by rw [hc.1]; decide) (by rw [hc.1]; decide)]
        exact e3 d hd
      · cases e
theorem pB_gskip (hG : Scans t G) {rec : Nat → Nat → Option (Nat × Nat)} (hr : ∀ x i j h, rec x i = some (j, h) → GSkip G i j) {f i j h : Nat} (e : pB s t most rec f i = some (j, h)) : ∃ a, j = a + 1 ∧ bt t a = cC (bt s f) ∧ GSkip G i a := by
  unfold pB at e
  split at e
  · rename_i hh
    simp only [Option.some.injEq, Prod.mk.injEq] at e
    exact ⟨i, e.1.symm, hh.1, fun _ _ => rfl⟩
  · exact pEl_gskip hG (hr (f + 1)) _ _ _ _ _ _ e
theorem pF_gskip (hG : Scans t G) {rec : Nat → Nat → Option (Nat × Nat)} (hr : ∀ x i j h, rec x i = some (j, h) → GSkip G i j) {f i j h : Nat} (hf : isF s f = true) (e : pF s t most rec f i = some (j, h)) : GSkip G i j := by
  intro d hd
  have hnz : bt s f ≠ 0 := by intro e; rw [isF, e] at hf; exact absurd hf (by decide)
  unfold pF at e
  split at e
  · cases e
  rename_i hbt
  have hbt' : bt t i = bt s f := by omega
  have hl : i < t.size := bt_lt (by omega)
  split at e
  · rename_i hL
    obtain ⟨n1, n2, _⟩ := letter_not (c := bt t i) (by rw [hbt', hL]; rfl)
    simp only [Option.some.injEq, Prod.mk.injEq] at e
    rw [hG.plain hl hd n1 n2, e.1]
  rename_i hL
  split at e
  · rename_i hN
    obtain ⟨n1, n2, _⟩ := letter_not (c := bt t i) (by rw [hbt', hN]; simp)
    unfold pN at e
    split at e
    · cases e
    rename_i h40
    have h40' : bt t (i + 1 : Nat) = 40 := by omega
    cases hq : rec (rl s (bt s f) + 2).toNat (i + 1 + 1) with
    | none => rw [hq] at e; cases e
    | some q =>
      obtain ⟨a, k⟩ := q
      rw [hq] at e
      simp only at e
      split at e
      · rename_i h41
        simp only [Option.some.injEq, Prod.mk.injEq] at e
        rw [hG.plain hl hd n1 n2, hG.opens hd (by rw [h40']; decide), hr _ _ _ _ hq (d + 1) (by omega), hG.closes (by omega) (by rw [h41]; decide), e.1]
        congr 1; omega
      · cases e
  · rename_i hN
    have hO : cO (bt s f) = true := by simpa [isF, hL, hN] using hf
    have hx : cX (cC (bt s f)) = true := cX_cC _ (by simpa [cO] using hO)
    obtain ⟨a, e1, e2, e3⟩ := pB_gskip hG hr e
    rw [hG.opens hd (by rw [hbt']; exact hO), e3 (d + 1) (by omega), hG.closes (by omega) (by rw [e2]; exact hx), e1]
    congr 1; omega
theorem pFs_gskip {g : Nat → Nat → Option (Nat × Nat)} : ∀ (L : List Nat) (i top j h : Nat), (∀ f ∈ L, ∀ i j h, g f i = some (j, h) → GSkip G i j) → pFs g L i top = some (j, h) → GSkip G i j
  | [], i, top, j, h, _, e => by
    simp only [pFs, Option.some.injEq, Prod.mk.injEq] at e
    intro d _; rw [e.1]
  | f :: L, i, top, j, h, hg, e => by
    unfold pFs at e
    cases hq : g f i with
    | none => rw [hq] at e; cases e
    | some q =>
      obtain ⟨a, k⟩ := q
      rw [hq] at e
      intro d hd
      rw [hg f (by simp) i a k hq d hd]
      exact pFs_gskip L a (max top k) j h (fun f' hf' => hg f' (by simp [hf'])) e d hd
theorem pE_gskip (hG : Scans t G) : ∀ n x i j h, pE s t most n x i = some (j, h) → GSkip G i j
  | 0, x, i, j, h, e => by cases e
  | n + 1, x, i, j, h, e => by
    obtain ⟨k, a, hk, hk9, ha, hp⟩ := pE_parts e
    obtain ⟨n1, n2, _⟩ := letter_not (c := bt t i) (by simp [cL, cN, cD, hk]; omega)
    have hl : i < t.size := bt_lt (by omega)
    have h1 := pFs_gskip (G := G) (fe s a).1 (i + 1) 0 j h (fun f hf i j h e => pF_gskip hG (fun x i j h e => pE_gskip hG n x i j h e) (fe_mem hf).1 e) hp
    intro d hd
    rw [hG.plain hl hd n1 n2]; exact h1 d hd

/-- where a bracket closes -/
def mtF (t : ByteArray) : Nat → Nat → Int → Nat
  | 0, _, _ => t.size
  | n + 1, j, d => if cO (bt t j) = true then mtF t n (j + 1) (d + 1) else if cX (bt t j) = true then (if d - 1 = 0 then j else mtF t n (j + 1) (d - 1)) else mtF t n (j + 1) d
def mtD (t : ByteArray) (j : Nat) (d : Int) : Nat := mtF t (t.size - j) j d
def mt (t : ByteArray) (i : Nat) : Nat := mtD t i 0
theorem mtD_step {t : ByteArray} {j : Nat} {d : Int} (h : j < t.size) : mtD t j d = if cO (bt t j) = true then mtD t (j + 1) (d + 1) else if cX (bt t j) = true then (if d - 1 = 0 then j else mtD t (j + 1) (d - 1)) else mtD t (j + 1) d := by
  unfold mtD
  rw [show t.size - j = (t.size - (j + 1)) + 1 by omega]
  rfl
theorem mtF_bd (t : ByteArray) : ∀ n j d, n = t.size - j → j ≤ t.size → j ≤ mtF t n j d ∧ mtF t n j d ≤ t.size
  | 0, j, d, hn, hj => by unfold mtF; omega
  | n + 1, j, d, hn, hj => by
    unfold mtF
    have h1 := mtF_bd t n (j + 1) (d + 1) (by omega) (by omega)
    have h2 := mtF_bd t n (j + 1) (d - 1) (by omega) (by omega)
    have h3 := mtF_bd t n (j + 1) d (by omega) (by omega)
    split
    · omega
    split
    · split <;> omega
    · omega
theorem mt_bd {t : ByteArray} {j : Nat} (h : j ≤ t.size) : j ≤ mt t j ∧ mt t j ≤ t.size := mtF_bd t _ j 0 rfl h
theorem mt_scans (t : ByteArray) : Scans t (mtD t) := by
  intro i d hi hd hp
  rw [mtD_step hi]
  unfold dpt at hp ⊢
  split
  · rfl
  · rename_i h1
    split
    · rename_i h2
      simp only [h1, h2] at hp
      rw [if_neg (by simp at hp; omega)]
    · rfl
theorem mt_close {a : Nat} (h : cX (bt t a) = true) : mtD t a 1 = a := by
  have hl : a < t.size := bt_lt (by intro e; rw [e] at h; revert h; decide)
  obtain ⟨_, _, h2, _⟩ := close_not h
  rw [mtD_step hl, if_neg (by simp [h2]), if_pos h, if_pos (by omega)]
theorem mt_open {i : Nat} (h : cO (bt t i) = true) : mt t i = mtD t (i + 1) 1 := by
  have hl : i < t.size := bt_lt (by intro e; rw [e] at h; revert h; decide)
  unfold mt
  rw [mtD_step hl, if_pos h]; rfl
theorem mt_bracket {n f i j h : Nat} (hO : cO (bt s f) = true) (hi : cO (bt t i) = true) (e : pB s t most (pE s t most n) f (i + 1) = some (j, h)) : mt t i + 1 = j ∧ bt t (mt t i) = cC (bt s f) := by
  have hx : cX (cC (bt s f)) = true := cX_cC _ (by simpa [cO] using hO)
  obtain ⟨a, e1, e2, e3⟩ := pB_gskip (mt_scans t) (fun x i j h e => pE_gskip (mt_scans t) n x i j h e) e
  have : mt t i = a := by rw [mt_open hi, e3 1 (by omega), mt_close (by rw [e2]; exact hx)]
  rw [this]
  exact ⟨e1.symm, e2⟩
theorem mt_name {n x i a k : Nat} (h40 : bt t i = 40) (e : pE s t most n x (i + 1) = some (a, k)) (h41 : bt t a = 41) : mt t i = a := by
  rw [mt_open (by rw [h40]; decide), pE_gskip (mt_scans t) n x _ a k e 1 (by omega), mt_close (by rw [h41]; decide)]

/-- the commas up to an end, in no other bracket -/
def rnF (t : ByteArray) (e : Nat) : Nat → Nat → Nat
  | 0, _ => 0
  | n + 1, j => if j < e then (if cO (bt t j) = true then rnF t e n (mt t j + 1) else if bt t j = 44 then rnF t e n (j + 1) + 1 else rnF t e n (j + 1)) else 0
theorem rnF_eq {t : ByteArray} {e : Nat} (he : e ≤ t.size) : ∀ n m j, e - j ≤ n → e - j ≤ m → rnF t e n j = rnF t e m j
  | 0, 0, j, _, _ => rfl
  | 0, m + 1, j, h, _ => by unfold rnF; rw [if_neg (by omega)]
  | n + 1, 0, j, _, h => by unfold rnF; rw [if_neg (by omega)]
  | n + 1, m + 1, j, h1, h2 => by
    unfold rnF
    by_cases hj : j < e
    · have := mt_bd (t := t) (j := j) (by omega)
      rw [if_pos hj, if_pos hj, rnF_eq he n m (mt t j + 1) (by omega) (by omega), rnF_eq he n m (j + 1) (by omega) (by omega)]
    · rw [if_neg hj, if_neg hj]
def rn (t : ByteArray) (e j : Nat) : Nat := rnF t e (e - j) j
theorem rn_end {e j : Nat} (h : e ≤ j) : rn t e j = 0 := by unfold rn; rw [show e - j = 0 by omega]; rfl
theorem rn_step {e j : Nat} (he : e ≤ t.size) (h : j < e) : rn t e j = if cO (bt t j) = true then rn t e (mt t j + 1) else if bt t j = 44 then rn t e (j + 1) + 1 else rn t e (j + 1) := by
  have := mt_bd (t := t) (j := j) (by omega)
  unfold rn
  rw [show e - j = (e - (j + 1)) + 1 by omega]
  conv => lhs; unfold rnF
  rw [if_pos h, rnF_eq he (e - (j + 1)) (e - (mt t j + 1)) (mt t j + 1) (by omega) (by omega)]
theorem rn_plain {e j : Nat} (he : e ≤ t.size) (h : j < e) (h1 : cO (bt t j) = false) (h3 : bt t j ≠ 44) : rn t e j = rn t e (j + 1) := by
  rw [rn_step he h, if_neg (by simp [h1]), if_neg h3]
theorem pF_rn {n e : Nat} (he : e ≤ t.size) {f i j h : Nat} (hf : isF s f = true) (hp : pF s t most (pE s t most n) f i = some (j, h)) (hj : j ≤ e) : rn t e i = rn t e j := by
  have hfw := pF_fwd (most := most) (fun x i => pE_fwd s t most n x i) hf j h hp
  have hnz : bt s f ≠ 0 := by intro e; rw [isF, e] at hf; exact absurd hf (by decide)
  unfold pF at hp
  split at hp
  · cases hp
  rename_i hbt
  have hbt' : bt t i = bt s f := by omega
  split at hp
  · rename_i hL
    obtain ⟨n1, _, n3⟩ := letter_not (c := bt t i) (by rw [hbt', hL]; rfl)
    simp only [Option.some.injEq, Prod.mk.injEq] at hp
    rw [rn_plain he (by omega) n1 n3, hp.1]
  rename_i hL
  split at hp
  · rename_i hN
    obtain ⟨n1, _, n3⟩ := letter_not (c := bt t i) (by rw [hbt', hN]; simp)
    unfold pN at hp
    split at hp
    · cases hp
    rename_i h40
    have h40' : bt t (i + 1 : Nat) = 40 := by omega
    cases hq : pE s t most n (rl s (bt s f) + 2).toNat (i + 1 + 1) with
    | none => rw [hq] at hp; cases hp
    | some q =>
      obtain ⟨a, k⟩ := q
      have hq2 := pE_fwd s t most n _ _ a k hq
      rw [hq] at hp
      simp only at hp
      split at hp
      · rename_i h41
        simp only [Option.some.injEq, Prod.mk.injEq] at hp
        rw [rn_plain he (by omega) n1 n3, rn_step he (by omega), if_pos (by rw [h40']; decide), mt_name h40' hq h41, hp.1]
      · cases hp
  · rename_i hN
    have hO : cO (bt s f) = true := by simpa [isF, hL, hN] using hf
    rw [rn_step he (by omega), if_pos (by rw [hbt']; exact hO), (mt_bracket hO (by rw [hbt']; exact hO) hp).1]
theorem pEl_gt {rec : Nat → Option (Nat × Nat)} {b : Int} {many : Bool} (hr : ∀ i j h, rec i = some (j, h) → i < j) : ∀ m i top cn j h, pEl t rec b many most m i top cn = some (j, h) → i < j ∧ ∀ a k, rec i = some (a, k) → a + 1 ≤ j
  | 0, i, top, cn, j, h, e => by cases e
  | m + 1, i, top, cn, j, h, e => by
    unfold pEl at e
    cases hq : rec i with
    | none => rw [hq] at e; cases e
    | some q =>
      obtain ⟨a, k⟩ := q
      rw [hq] at e
      simp only at e
      have h1 := hr i a k hq
      have key : a + 1 ≤ j := by
        split at e
        · cases e
        split at e
        · simp only [Option.some.injEq, Prod.mk.injEq] at e; omega
        split at e
        · have := (pEl_gt hr m (a + 1) _ _ j h e).1; omega
        · cases e
      refine ⟨by omega, fun a' k' e' => ?_⟩
      simp only [Option.some.injEq, Prod.mk.injEq] at e'; omega
theorem pFs_le {g : Nat → Nat → Option (Nat × Nat)} : ∀ (L : List Nat) (i top j h : Nat), (∀ f ∈ L, ∀ i j h, g f i = some (j, h) → i < j) → pFs g L i top = some (j, h) → i ≤ j
  | [], i, top, j, h, _, e => by
    simp only [pFs, Option.some.injEq, Prod.mk.injEq] at e; omega
  | f :: L, i, top, j, h, hg, e => by
    unfold pFs at e
    cases hq : g f i with
    | none => rw [hq] at e; cases e
    | some q =>
      obtain ⟨a, k⟩ := q
      rw [hq] at e
      have := hg f (by simp) i a k hq
      have := pFs_le L a (max top k) j h (fun f' hf' => hg f' (by simp [hf'])) e
      omega
theorem pFs_rn {n e : Nat} (he : e ≤ t.size) : ∀ (L : List Nat) (i top j h : Nat), (∀ f ∈ L, isF s f = true) → pFs (pF s t most (pE s t most n)) L i top = some (j, h) → j ≤ e → rn t e i = rn t e j
  | [], i, top, j, h, _, hp, _ => by
    simp only [pFs, Option.some.injEq, Prod.mk.injEq] at hp
    rw [hp.1]
  | f :: L, i, top, j, h, hg, hp, hj => by
    unfold pFs at hp
    cases hq : pF s t most (pE s t most n) f i with
    | none => rw [hq] at hp; cases hp
    | some q =>
      obtain ⟨a, k⟩ := q
      rw [hq] at hp
      have hle := pFs_le L a (max top k) j h (fun f' hf' i j h e => (pF_fwd (most := most) (fun x i => pE_fwd s t most n x i) (hg f' (by simp [hf'])) j h e).1) hp
      rw [pF_rn he (hg f (by simp)) hq (by omega)]
      exact pFs_rn he L a (max top k) j h (fun f' hf' => hg f' (by simp [hf'])) hp hj
theorem pE_rn {n x i j h e : Nat} (he : e ≤ t.size) (hp : pE s t most n x i = some (j, h)) (hj : j ≤ e) : rn t e i = rn t e j := by
  cases n with
  | zero => cases hp
  | succ n =>
    have hlt := (pE_fwd s t most (n + 1) x i j h hp).1
    obtain ⟨k, a, hk, hk9, ha, hf⟩ := pE_parts hp
    obtain ⟨n1, _, n3⟩ := letter_not (c := bt t i) (by simp [cL, cN, cD, hk]; omega)
    rw [rn_plain he (by omega) n1 n3]
    exact pFs_rn he _ _ _ _ _ (fun f hf => (fe_mem hf).1) hf hj
theorem pEl_rn {n x e : Nat} (he : e ≤ t.size) {b : Int} {many : Bool} (heb : bt t e = b) : ∀ m i top cn j h, pEl t (pE s t most n x) b many most m i top cn = some (j, h) → e + 1 = j → rn t e i + 1 = nEl t (pE s t most n x) b m i
  | 0, i, top, cn, j, h, e', _ => by cases e'
  | m + 1, i, top, cn, j, h, e', hj => by
    have hfw : ∀ i, Fwd t (t.size + n) i (pE s t most n x i) := fun i j h e => by have := pE_fwd s t most n x i j h e; omega
    unfold pEl at e'
    cases hq : pE s t most n x i with
    | none => rw [hq] at e'; cases e'
    | some q =>
      obtain ⟨a, k⟩ := q
      rw [hq] at e'
      simp only at e'
      have hn : nEl t (pE s t most n x) b (m + 1) i = if bt t a = b then 1 else nEl t (pE s t most n x) b m (a + 1) + 1 := by simp only [nEl, hq]
      split at e'
      · cases e'
      split at e'
      · rename_i hbb
        simp only [Option.some.injEq, Prod.mk.injEq] at e'
        rw [hn, if_pos hbb, pE_rn he hq (by omega), rn_end (by omega)]
      rename_i hbb
      split at e'
      · rename_i hc
        have hae : a < e := by
          have h1 : a + 1 < j := by
            have h2 := pEl_first _ _ _ _ _ _ e'
            obtain ⟨_, j', h', g1, _⟩ := h2
            have := (pE_fwd s t most n x _ j' h' g1).1
            have := (pEl_gt (fun i j h e => (pE_fwd s t most n x i j h e).1) _ _ _ _ _ _ e').2 _ _ g1
            omega
          omega
        have ih := pEl_rn he heb m (a + 1) (max top k) (cn + 1) j h e' hj
        rw [hn, if_neg hbb, pE_rn he hq (by omega), rn_step he hae, if_neg (by rw [hc.1]; decide), if_pos hc.1, ih]
      · cases e'
/-- the reference's count -/
theorem rn_count {n f i j h : Nat} (hO : cO (bt s f) = true) (hi : cO (bt t i) = true) (e : pB s t most (pE s t most n) f (i + 1) = some (j, h)) : rn t (mt t i) (i + 1) + (if i + 1 < mt t i then 1 else 0) = nB s t (pE s t most n) f (i + 1) := by
  obtain ⟨h1, h2⟩ := mt_bracket hO hi e
  have hil : i < t.size := bt_lt (by intro e; rw [e] at hi; revert hi; decide)
  have hmb := mt_bd (t := t) (j := i) (by omega)
  unfold pB at e
  unfold nB
  split at e
  · rename_i hh
    simp only [Option.some.injEq, Prod.mk.injEq] at e
    rw [if_pos hh, rn_end (by omega), if_neg (by omega)]
  · rename_i hh
    rw [if_neg hh]
    obtain ⟨_, j', h', g1, _⟩ := pEl_first _ _ _ _ _ _ e
    have g2 := (pE_fwd s t most n _ _ j' h' g1).1
    have g3 := (pEl_gt (fun i j h e => (pE_fwd s t most n (f + 1) i j h e).1) _ _ _ _ _ _ e).2 _ _ g1
    rw [if_pos (by omega), pEl_rn hmb.2 h2 _ _ _ _ _ _ e h1]
/-- where nothing fits nothing is -/
theorem nB_none {n f i j h l : Nat} (e : pB s t most (pE s t most n) f i = some (j, h)) (hl : h ≤ l) (hx : expFit s (nFit s l) (f + 1) = false) : nB s t (pE s t most n) f i = 0 := by
  unfold pB at e
  unfold nB
  split at e
  · rename_i hh; rw [if_pos hh]
  · exfalso
    obtain ⟨_, j', h', g1, g2⟩ := pEl_first _ _ _ _ _ _ e
    have := pE_fit n (f + 1) _ _ _ l g1 (by omega)
    rw [hx] at this; cases this
theorem nB_one {n f i j h : Nat} (hf : few (bt s f) = 1) (hO : cO (bt s f) = true) (e : pB s t most (pE s t most n) f i = some (j, h)) : 1 ≤ nB s t (pE s t most n) f i := by
  have hx : cX (cC (bt s f)) = true := cX_cC _ (by simpa [cO] using hO)
  unfold pB at e
  unfold nB
  split at e
  · rename_i hh
    unfold few at hf
    rw [if_neg (by omega)] at hf; cases hf
  · rename_i hh
    rw [if_neg hh]
    exact (pEl_skip (rec := pE s t most n (f + 1)) (fun i j h e => pE_skip s t most n (f + 1) i j h e) hx _ _ _ _ _ _ e 1 0 (by omega)).2
/-- behind what is left there is a bracket at least -/
theorem pE_ends {n x j h k C q : Nat} {dr : Nat → List Int} {cl : Int} {D Z : List Int} (h' : Rest t (pE s t 0 n x) dr cl j h k C q D Z) : q + 1 ≤ j := by
  rcases h' with ⟨_, e, _⟩ | ⟨_, mm, top, cn, many, e, _⟩
  · omega
  · have := (pEl_gt (fun i j h e => (pE_fwd s t 0 n x i j h e).1) _ _ _ _ _ _ e).1
    split at this <;> omega
end
end Go.Proofs.Ytnfaiaoipeholaa
