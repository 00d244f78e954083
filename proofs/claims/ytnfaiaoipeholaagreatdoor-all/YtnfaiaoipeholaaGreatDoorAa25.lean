/- ParB InvA ParC PWrite -/
import Derived.Test.YtnfaiaoipeholaaGreatDoorAa22
import Derived.Test.YtnfaiaoipeholaaGreatDoorAa18
import Derived.Test.YtnfaiaoipeholaaGreatDoorAa24
import Derived.Deep.AppendLies
namespace Go.Proofs.YtnfaiaoipeholaaGreatDoor
/-- the letters of a text between two places -/
def tl (t : ByteArray) (i j : Nat) : List Int := ((List.range' i (j - i)).map fun k : Nat => bt t k).filter fun c => cL c
/-- what stands there -/
def ws (u : ByteArray) (a b : Nat) : List Int := (List.range' a (b - a)).map fun k : Nat => bt u k
section
variable {s t u : ByteArray}
theorem rng_join {i k j : Nat} (h1 : i ≤ k) (h2 : k ≤ j) : List.range' i (j - i) = List.range' i (k - i) ++ List.range' k (j - k) := by
  have := List.range'_append_1 (s := i) (m := k - i) (n := j - k)
  rw [show i + (k - i) = k by omega, show k - i + (j - k) = j - i by omega] at this
  exact this.symm
theorem ws_len {a b : Nat} : (ws u a b).length = b - a := by simp [ws]
theorem ws_join {a e b : Nat} (h1 : a ≤ e) (h2 : e ≤ b) : ws u a b = ws u a e ++ ws u e b := by
  unfold ws; rw [rng_join h1 h2, List.map_append]
theorem ws_split {l m : List Int} {a b : Nat} (h : l ++ m = ws u a b) (hab : a ≤ b) : ∃ e, a ≤ e ∧ e ≤ b ∧ l = ws u a e ∧ m = ws u e b := by
  have hl : l.length + m.length = b - a := by rw [← List.length_append, h, ws_len]
  refine ⟨a + l.length, by omega, by omega, ?_⟩
  rw [ws_join (e := a + l.length) (by omega) (by omega)] at h
  exact List.append_inj h (by rw [ws_len]; omega)
theorem tl_join {i k j : Nat} (h1 : i ≤ k) (h2 : k ≤ j) : tl t i j = tl t i k ++ tl t k j := by
  unfold tl; rw [rng_join h1 h2, List.map_append, List.filter_append]
theorem tl_one (i : Nat) : tl t i (i + 1) = if cL (bt t i) = true then [bt t i] else [] := by
  unfold tl; rw [show i + 1 - i = 1 by omega]; simp [List.range', List.filter]
  cases cL (bt t i) <;> rfl
theorem tl_nil (i : Nat) : tl t i i = [] := by unfold tl; simp
theorem tl_first {i j : Nat} (h : i < j) (hc : cL (bt t i) = false) : tl t i j = tl t (i + 1) j := by
  rw [tl_join (k := i + 1) (by omega) (by omega), tl_one, if_neg (by simp [hc])]; rfl
theorem tl_last {i j : Nat} (h : i ≤ j) (hc : cL (bt t j) = false) : tl t i (j + 1) = tl t i j := by
  rw [tl_join (k := j) h (by omega), tl_one, if_neg (by simp [hc])]; simp
theorem ws_nil {a b : Nat} (h : [] = ws u a b) (hab : a ≤ b) : a = b := by
  have := congrArg List.length h; rw [ws_len] at this; simp at this; omega
theorem cL_cC (c : Int) : cL (cC c) = false := by
  rcases cC_vals c with h | h | h | h | h <;> rw [h] <;> decide

variable {R X W : Tb}
/-- expressions that are read so deep have so many bytes -/
def Cst (s u t : ByteArray) (X : Tb) (n : Nat) : Prop :=
  ∀ x i j h a b, x < s.size → begs s x = true → pE s t 0 n x i = some (j, h) → a ≤ b → b ≤ u.size → tl t i j = ws u a b → i + X x a b ≤ j

theorem rwC_one (x a b : Nat) : (rwC X W x a b).1 ≤ X x a b := bst_init _ _ _ _
theorem rwC_two {x a e b : Nat} (h1 : a < e) (h2 : e < b) : (rwC X W x a b).1 ≤ X x a e + 1 + W x e b :=
  bst_le (fun e => X x a e + 1 + W x e b) _ _ _ e (by omega) (by omega)
theorem pEl_cost (fx : Fix s u R X W) {n x : Nat} {c : Int} {many : Bool} (hc : cL c = false) (hc0 : c ≠ 0) (hx : x < s.size) (hb : begs s x = true) (ih : Cst s u t X n) :
    ∀ m i top cnt j h a b, top ≤ n → pEl t (pE s t 0 n x) c many 0 m i top cnt = some (j, h) → a ≤ b → b ≤ u.size → tl t i j = ws u a b → i + (if many = true then W x a b else X x a b) + 1 ≤ j
  | 0, i, top, cnt, j, h, a, b, ht, e, hab, hbu, hw => by cases e
  | m + 1, i, top, cnt, j, h, a, b, ht, e, hab, hbu, hw => by
    unfold pEl at e
    cases hq : pE s t 0 n x i with
    | none => rw [hq] at e; cases e
    | some q =>
      obtain ⟨k, h1⟩ := q
      rw [hq] at e
      simp only at e
      have hf := pE_fwd s t 0 n x i k h1 hq
      have h2 := (fx.fix a b hab hbu).row x hx hb
      have h3 := rwC_one (X := X) (W := W) x a b
      split at e
      · cases e
      split at e
      · rename_i hbt
        have hj : k + 1 = j := by simp at e; omega
        subst hj
        rw [tl_last (by omega) (by rw [hbt]; exact hc)] at hw
        have := ih x i k h1 a b hx hb hq hab hbu hw
        split <;> omega
      split at e
      · rename_i hbt hm
        have hfw := pEl_fwd (t := t) (n := n) (fun i => pE_fwd s t 0 n x i) hc0 m (k + 1) (max top h1) (cnt + 1) (by omega) j h e
        rw [tl_join (k := k) (by omega) (by omega), tl_first (i := k) (by omega) (by rw [hm.1]; decide)] at hw
        obtain ⟨d, hd1, hd2, hd3, hd4⟩ := ws_split hw hab
        have r1 := ih x i k h1 a d hx hb hq hd1 (by omega) hd3
        have r2 := pEl_cost fx hc hc0 hx hb ih m (k + 1) (max top h1) (cnt + 1) j h d b (by omega) e hd2 hbu hd4
        rw [if_pos hm.2] at r2 ⊢
        by_cases e1 : a = d
        · subst e1; omega
        · by_cases e2 : d = b
          · subst e2; omega
          · have := rwC_two (X := X) (W := W) (x := x) (show a < d by omega) (show d < b by omega)
            omega
      · cases e
theorem pF_cost (fx : Fix s u R X W) (g : Gram s) (ins : Ins s) {n : Nat} (ih : Cst s u t X n) {f i j h a b : Nat} (hf : isF s f = true) (e : pF s t 0 (pE s t 0 n) f i = some (j, h)) (hab : a ≤ b) (hbu : b ≤ u.size) (hw : tl t i j = ws u a b) : i + fcC s u X W f a b ≤ j := by
  have hfw := pF_fwd (s := s) (t := t) (most := 0) (fun x i => pE_fwd s t 0 n x i) (i := i) hf j h e
  unfold pF at e
  split at e
  · cases e
  rename_i hbt
  have hbt' : bt t i = bt s f := by simpa using hbt
  unfold fcC
  split at e
  · rename_i hl
    have hj : i + 1 = j := by simp at e; omega
    subst hj
    rw [if_pos hl]
    rw [tl_one, if_pos (by rw [hbt']; exact hl)] at hw
    have hlen := congrArg List.length hw
    rw [ws_len] at hlen
    simp at hlen
    have hb1 : b = a + 1 := by omega
    subst hb1
    have : ws u a (a + 1) = [bt u a] := by unfold ws; rw [show a + 1 - a = 1 by omega]; simp
    rw [this] at hw
    rw [if_pos ⟨rfl, by simp at hw; omega⟩]
    omega
  rename_i hl
  have hl' : cL (bt s f) = false := by simpa using hl
  obtain ⟨hx, hb⟩ := wi_begs g ins hf hl'
  rw [if_neg hl]
  rw [tl_first (by omega) (by rw [hbt']; exact hl')] at hw
  split at e
  · rename_i hn
    rw [if_pos hn]
    unfold pN at e
    split at e
    · cases e
    rename_i h40
    have hwi : wi s f = (rl s (bt s f) + 2).toNat := by unfold wi; rw [if_pos hn]
    rw [← hwi] at e
    cases hq : pE s t 0 n (wi s f) (i + 1 + 1) with
    | none => rw [hq] at e; cases e
    | some q =>
      obtain ⟨k, h1⟩ := q
      rw [hq] at e
      simp only at e
      have hf1 := pE_fwd s t 0 n _ _ k h1 hq
      split at e
      · rename_i h41
        have hj : k + 1 = j := by simp at e; omega
        subst hj
        have h40' : bt t ((i + 1 : Nat) : Int) = 40 := by simpa using h40
        rw [tl_first (by omega) (by rw [h40']; decide), tl_last (by omega) (by rw [h41]; decide)] at hw
        have := ih _ _ _ _ a b hx hb hq hab hbu hw
        omega
      · cases e
  · rename_i hn
    rw [if_neg hn]
    have hn' : cN (bt s f) = false := by simpa using hn
    have hc0 := isF_cC hf hl' hn'
    have ho := cO_vals (c := bt s f) (by simp [cO, hc0])
    rw [wi_open hn'] at hx hb ⊢
    unfold pB at e
    split at e
    · rename_i hc
      have hj : i + 1 + 1 = j := by simp at e; omega
      subst hj
      rw [tl_one, if_neg (by rw [hc.1, cL_cC]; simp)] at hw
      have := ws_nil hw hab
      rw [if_pos ⟨hc.2, this⟩]; omega
    · rename_i hc
      have h1 := pEl_cost fx (cL_cC _) hc0 hx hb ih _ _ _ _ j h a b (by omega) e hab hbu hw
      by_cases hm : bt s f = 123 ∨ bt s f = 60
      · rw [if_pos (by simpa using hm)] at h1
        split
        · omega
        · omega
      · rw [if_neg (by simpa using hm)] at h1
        split
        · omega
        · omega
theorem pFs_cost (fx : Fix s u R X W) (g : Gram s) (ins : Ins s) {n : Nat} (ih : Cst s u t X n) : ∀ N p i top j h a b, s.size - p ≤ N → p < s.size → top ≤ n + 1 → pFs (pF s t 0 (pE s t 0 n)) (fe s p).1 i top = some (j, h) → a ≤ b → b ≤ u.size → tl t i j = ws u a b → i + R p a b ≤ j
  | 0, p, i, top, j, h, a, b, hN, hp, ht, e, hab, hbu, hw => by omega
  | N + 1, p, i, top, j, h, a, b, hN, hp, ht, e, hab, hbu, hw => by
    have hR := (fx.fix a b hab hbu).rest p hp
    cases hf : isF s p
    · rw [fe_no hf] at e
      have hj : i = j := by simp [pFs] at e; omega
      subst hj
      rw [tl_nil] at hw
      have := ws_nil hw hab
      unfold rsC at hR
      rw [if_neg (by simp [hf])] at hR
      simp only at hR
      rw [if_pos this] at hR
      omega
    · have hbh := bh_bd hf
      have hin := ins.beh p hf
      rw [fe_yes hf] at e
      unfold pFs at e
      cases hq : pF s t 0 (pE s t 0 n) p i with
      | none => rw [hq] at e; cases e
      | some q =>
        obtain ⟨k, h1⟩ := q
        rw [hq] at e
        simp only at e
        have hf1 := pF_fwd (s := s) (t := t) (most := 0) (fun x i => pE_fwd s t 0 n x i) (i := i) hf k h1 hq
        have hf2 := pFs_fwd (t := t) (n := n + 1) (fe s (bh s p)).1 k (max top h1) (fun f hf i => pF_fwd (fun x i => pE_fwd s t 0 n x i) (fe_mem hf).1) (by omega) j h e
        rw [tl_join (k := k) (by omega) (by omega)] at hw
        obtain ⟨d, hd1, hd2, hd3, hd4⟩ := ws_split hw hab
        have r1 := pF_cost fx g ins ih hf hq hd1 (by omega) hd3
        have r2 := pFs_cost fx g ins ih N (bh s p) k (max top h1) j h d b (by omega) hin (by omega) e hd2 hbu hd4
        unfold rsC at hR
        rw [if_pos hf] at hR
        have := bst_le (fun e => fcC s u X W p a e + R (bh s p) e b) (b + 1 - a) a (2001, b) d hd1 (by omega)
        omega
theorem pE_cost (fx : Fix s u R X W) (g : Gram s) (ins : Ins s) : ∀ n, Cst s u t X n
  | 0, x, i, j, h, a, b, hx, hb, e, hab, hbu, hw => by cases e
  | n + 1, x, i, j, h, a, b, hx, hb, e, hab, hbu, hw => by
    have ih : Cst s u t X n := pE_cost fx g ins n
    have hfw := pE_fwd s t 0 (n + 1) x i j h e
    unfold pE at e
    split at e
    · rename_i hd
      cases hq : ap s (bt t i - 48).toNat x with
      | none => rw [hq] at e; cases e
      | some p =>
        rw [hq] at e
        simp only at e
        have hv : 48 ≤ bt t i ∧ bt t i ≤ 57 := by simpa [cD] using hd
        rw [tl_first (by omega) (by simp [cL]; omega)] at hw
        have r := pFs_cost fx g ins ih _ p (i + 1) 0 j h a b (Nat.le_refl _) (ap_ins ins hx hq) (by omega) e hab hbu hw
        have hX := (fx.fix a b hab hbu).expr x hx hb
        have hq' := hq
        rw [sts_ap] at hq'
        obtain ⟨hk, hk2⟩ := List.getElem?_eq_some_iff.1 hq'
        have := bst_le (fun k => R ((sts s x).getD k 0) a b + 1) (sts s x).length 0 (2001, 0) (bt t i - 48).toNat (Nat.zero_le _) (by omega)
        simp only [List.getD_eq_getElem?_getD, hq', Option.getD_some] at this
        unfold exC at hX
        simp only [List.getD_eq_getElem?_getD] at hX
        omega
    · cases e
/-- a tree of the grammar that has the word is not shorter than the start's -/
theorem whole_cost (fx : Fix s u R X W) (g : Gram s) (ins : Ins s) (hs : isF s 0 = true) {h : Nat} (e : whole s t 0 = some h) (hw : tl t 0 t.size = ws u 0 u.size) : fcC s u X W 0 0 u.size ≤ t.size ∧ t.size ≤ 2000 := by
  unfold whole at e
  split at e
  · cases e
  cases hq : pF s t 0 (pE s t 0 (t.size + 1)) 0 0 with
  | none => rw [hq] at e; cases e
  | some q =>
    obtain ⟨j, h1⟩ := q
    rw [hq] at e
    simp only at e
    split at e
    · rename_i hj
      subst hj
      have := pF_cost fx g ins (pE_cost fx g ins _) hs hq (Nat.zero_le _) (Nat.le_refl _) hw
      omega
    · cases e
end
end Go.Proofs.YtnfaiaoipeholaaGreatDoor

namespace Go.Proofs.YtnfaiaoipeholaaGreatDoor
/-- these bytes stand here -/
def At (t : ByteArray) (i : Nat) (L : List Int) : Prop := ∀ k (hk : k < L.length), bt t (i + k : Nat) = L[k]
section
variable {t : ByteArray}
theorem At.left {i : Nat} {A B : List Int} (h : At t i (A ++ B)) : At t i A := fun k hk => by
  have := h k (by simp; omega)
  rw [this, List.getElem_append_left hk]
theorem At.right {i : Nat} {A B : List Int} (h : At t i (A ++ B)) : At t (i + A.length) B := fun k hk => by
  have := h (A.length + k) (by simp; omega)
  rw [show i + A.length + k = i + (A.length + k) by omega, this, List.getElem_append_right (by omega)]
  simp
theorem At.head {i : Nat} {x : Int} {L : List Int} (h : At t i (x :: L)) : bt t i = x := by
  have := h 0 (by simp)
  simpa using this
theorem At.tail {i : Nat} {x : Int} {L : List Int} (h : At t i (x :: L)) : At t (i + 1) L := fun k hk => by
  have := h (k + 1) (by simp; omega)
  rw [show i + 1 + k = i + (k + 1) by omega, this]; rfl
end
section
variable {s c t : ByteArray} {m : Nat}
end
end Go.Proofs.YtnfaiaoipeholaaGreatDoor

namespace Go.Proofs.YtnfaiaoipeholaaGreatDoor
section
variable {s u : ByteArray} {R X W R' X' W' : Tb}
theorem fcC_pos {f a b : Nat} : 1 ≤ fcC s u X W f a b := by
  unfold fcC; split
  · split <;> omega
  split
  · omega
  split
  · omega
  split <;> omega
/-- how a rest is put together -/
theorem rsC_cases {p a b : Nat} (hf : isF s p = true) (hv : (rsC s u R X W p a b).1 ≤ 2000) :
    ∃ e, a ≤ e ∧ e ≤ b ∧ rsC s u R X W p a b = (fcC s u X W p a e + R (bh s p) e b, e) := by
  unfold rsC at hv ⊢
  rw [if_pos hf] at hv ⊢
  rcases bst_cases (fun e => fcC s u X W p a e + R (bh s p) e b) (b + 1 - a) a (2001, b) with e | ⟨j, h1, h2, h3, _⟩
  · rw [e] at hv; simp at hv
  · exact ⟨j, h1, by omega, h3⟩
theorem exC_cases {x a b : Nat} (hv : (exC s R x a b).1 ≤ 2000) :
    ∃ k p, ap s k x = some p ∧ (sts s x).getD k 0 = p ∧ exC s R x a b = (R p a b + 1, k) := by
  unfold exC at hv ⊢
  rcases bst_cases (fun k => R ((sts s x).getD k 0) a b + 1) (sts s x).length 0 (2001, 0) with e | ⟨j, h1, h2, h3, _⟩
  · rw [e] at hv; simp at hv
  · have hj : j < (sts s x).length := by omega
    refine ⟨j, (sts s x).getD j 0, ?_, rfl, h3⟩
    rw [sts_ap, List.getD_eq_getElem?_getD, List.getElem?_eq_getElem hj]; rfl
theorem rwC_cases (x a b : Nat) : rwC X W x a b = (X x a b, b) ∨ ∃ e, a < e ∧ e < b ∧ rwC X W x a b = (X x a e + 1 + W x e b, e) := by
  rcases bst_cases (fun e => X x a e + 1 + W x e b) (b - (a + 1)) (a + 1) (X x a b, b) with e | ⟨j, h1, h2, h3, _⟩
  · exact .inl e
  · exact .inr ⟨j, by omega, by omega, h3⟩

/-- the other tables tell no more, up to so many bytes -/
structure Les (R X W R' X' W' : Tb) (v : Nat) : Prop where
  r : ∀ p a b, R p a b ≤ v → R' p a b ≤ R p a b
  x : ∀ p a b, X p a b ≤ v → X' p a b ≤ X p a b
  w : ∀ p a b, W p a b ≤ v → W' p a b ≤ W p a b
theorem fcC_les {v f a b : Nat} (h : Les R X W R' X' W' v) (hv : fcC s u X W f a b ≤ v + 1) : fcC s u X' W' f a b ≤ fcC s u X W f a b := by
  unfold fcC at hv ⊢
  split
  · exact Nat.le_refl _
  rename_i h1
  rw [if_neg h1] at hv
  split
  · rename_i h2
    rw [if_pos h2] at hv
    have := h.x (wi s f) a b (by omega); omega
  rename_i h2
  rw [if_neg h2] at hv
  split
  · exact Nat.le_refl _
  rename_i h3
  rw [if_neg h3] at hv
  split
  · rename_i h4
    rw [if_pos h4] at hv
    have := h.w (wi s f) a b (by omega); omega
  · rename_i h4
    rw [if_neg h4] at hv
    have := h.x (wi s f) a b (by omega); omega
theorem les_step (fx : Fix s u R X W) (fx' : Fix s u R' X' W') {v : Nat} (ih : Les R X W R' X' W' v) : Les R X W R' X' W' (v + 1) := by
  have hx : ∀ p a b, X p a b ≤ v + 1 → X' p a b ≤ X p a b := by
    intro p a b hv
    by_cases hd : p < s.size ∧ a ≤ b ∧ b ≤ u.size ∧ begs s p = true
    · obtain ⟨h1, h2, h3, h4⟩ := hd
      have e1 := (fx.fix a b h2 h3).expr p h1 h4
      have e2 := (fx'.fix a b h2 h3).expr p h1 h4
      by_cases hc : X p a b ≤ 2000
      · obtain ⟨k, q, k1, k2, k3⟩ := exC_cases (s := s) (R := R) (x := p) (a := a) (b := b) (by omega)
        rw [k3] at e1
        simp only at e1
        have hr := ih.r q a b (by omega)
        have hk : k < (sts s p).length := by
          rw [sts_ap] at k1; exact (List.getElem?_eq_some_iff.1 k1).1
        have := bst_le (fun k => R' ((sts s p).getD k 0) a b + 1) (sts s p).length 0 (2001, 0) k (Nat.zero_le _) (by omega)
        simp only [k2] at this
        unfold exC at e2
        omega
      · have := fx'.cX p a b; omega
    · have := fx.oX p a b hd; have := fx'.cX p a b; omega
  refine ⟨fun p a b hv => ?_, hx, fun p a b hv => ?_⟩
  · by_cases hd : p < s.size ∧ a ≤ b ∧ b ≤ u.size
    · obtain ⟨h1, h2, h3⟩ := hd
      have e1 := (fx.fix a b h2 h3).rest p h1
      have e2 := (fx'.fix a b h2 h3).rest p h1
      by_cases hc : R p a b ≤ 2000
      · cases hf : isF s p
        · unfold rsC at e1 e2
          rw [if_neg (by simp [hf])] at e1 e2
          omega
        · obtain ⟨e, k1, k2, k3⟩ := rsC_cases (u := u) (R := R) (X := X) (W := W) (a := a) (b := b) hf (by omega)
          rw [k3] at e1
          simp only at e1
          have hpos := fcC_pos (s := s) (u := u) (X := X) (W := W) (f := p) (a := a) (b := e)
          have hr := ih.r (bh s p) e b (by omega)
          have hfc := fcC_les (s := s) (u := u) (f := p) (a := a) (b := e) ih (by omega)
          have := bst_le (fun e => fcC s u X' W' p a e + R' (bh s p) e b) (b + 1 - a) a (2001, b) e k1 (by omega)
          unfold rsC at e2
          rw [if_pos hf] at e2
          omega
      · have := fx'.cR p a b; omega
    · have := fx.oR p a b hd; have := fx'.cR p a b; omega
  · by_cases hd : p < s.size ∧ a ≤ b ∧ b ≤ u.size ∧ begs s p = true
    · obtain ⟨h1, h2, h3, h4⟩ := hd
      have e1 := (fx.fix a b h2 h3).row p h1 h4
      have e2 := (fx'.fix a b h2 h3).row p h1 h4
      rcases rwC_cases (X := X) (W := W) p a b with k | ⟨e, k1, k2, k3⟩
      · rw [k] at e1
        simp only at e1
        have := hx p a b (by omega)
        have := rwC_one (X := X') (W := W') p a b
        omega
      · rw [k3] at e1
        simp only at e1
        have := ih.x p a e (by omega)
        have := ih.w p e b (by omega)
        have := rwC_two (X := X') (W := W') (x := p) k1 k2
        omega
    · have := fx.oW p a b hd; have := fx'.cW p a b; omega
theorem les_zero (fx : Fix s u R X W) (fx' : Fix s u R' X' W') : Les R X W R' X' W' 0 := by
  have hx : ∀ p a b, X p a b ≤ 0 → X' p a b ≤ X p a b := by
    intro p a b hv
    by_cases hd : p < s.size ∧ a ≤ b ∧ b ≤ u.size ∧ begs s p = true
    · obtain ⟨h1, h2, h3, h4⟩ := hd
      have e1 := (fx.fix a b h2 h3).expr p h1 h4
      obtain ⟨k, q, k1, k2, k3⟩ := exC_cases (s := s) (R := R) (x := p) (a := a) (b := b) (by omega)
      rw [k3] at e1
      simp only at e1
      omega
    · have := fx.oX p a b hd; omega
  refine ⟨fun p a b hv => ?_, hx, fun p a b hv => ?_⟩
  · by_cases hd : p < s.size ∧ a ≤ b ∧ b ≤ u.size
    · obtain ⟨h1, h2, h3⟩ := hd
      have e1 := (fx.fix a b h2 h3).rest p h1
      have e2 := (fx'.fix a b h2 h3).rest p h1
      cases hf : isF s p
      · unfold rsC at e1 e2
        rw [if_neg (by simp [hf])] at e1 e2
        omega
      · obtain ⟨e, k1, k2, k3⟩ := rsC_cases (u := u) (R := R) (X := X) (W := W) (a := a) (b := b) hf (by omega)
        rw [k3] at e1
        simp only at e1
        have hpos := fcC_pos (s := s) (u := u) (X := X) (W := W) (f := p) (a := a) (b := e)
        omega
    · have := fx.oR p a b hd; omega
  · by_cases hd : p < s.size ∧ a ≤ b ∧ b ≤ u.size ∧ begs s p = true
    · obtain ⟨h1, h2, h3, h4⟩ := hd
      have e1 := (fx.fix a b h2 h3).row p h1 h4
      have e2 := (fx'.fix a b h2 h3).row p h1 h4
      rcases rwC_cases (X := X) (W := W) p a b with k | ⟨e, k1, k2, k3⟩
      · rw [k] at e1
        simp only at e1
        have := hx p a b (by omega)
        have := rwC_one (X := X') (W := W') p a b
        omega
      · rw [k3] at e1
        simp only at e1
        omega
    · have := fx.oW p a b hd; omega
theorem les_all (fx : Fix s u R X W) (fx' : Fix s u R' X' W') : ∀ v, Les R X W R' X' W' v
  | 0 => les_zero fx fx'
  | v + 1 => les_step fx fx' (les_all fx fx' v)
/-- there is one chart alone -/
theorem fix_one (fx : Fix s u R X W) (fx' : Fix s u R' X' W') : R = R' ∧ X = X' ∧ W = W' := by
  have h1 := les_all fx fx' 2001
  have h2 := les_all fx' fx 2001
  refine ⟨?_, ?_, ?_⟩ <;> funext p a b
  · exact Nat.le_antisymm (h2.r p a b (fx'.cR p a b)) (h1.r p a b (fx.cR p a b))
  · exact Nat.le_antisymm (h2.x p a b (fx'.cX p a b)) (h1.x p a b (fx.cX p a b))
  · exact Nat.le_antisymm (h2.w p a b (fx'.cW p a b)) (h1.w p a b (fx.cW p a b))
end

/-- factors as they are written -/
def wrFs (s u : ByteArray) (R X W : Tb) (g : Nat → Nat → Nat → List Int) : List Nat → Nat → Nat → List Int
  | [], _, _ => []
  | f :: l, a, b => g f a (rsC s u R X W f a b).2 ++ wrFs s u R X W g l (rsC s u R X W f a b).2 b
/-- a row -/
def wrR (X W : Tb) (rec : Nat → Nat → List Int) (x : Nat) : Nat → Nat → Nat → List Int
  | 0, _, _ => []
  | m + 1, a, b => rec a (rwC X W x a b).2 ++ (if (rwC X W x a b).2 < b then 44 :: wrR X W rec x m (rwC X W x a b).2 b else [])
/-- what is in a name or a bracket -/
def wrI (s : ByteArray) (X W : Tb) (rec : Nat → Nat → Nat → List Int) (f a b : Nat) : List Int :=
  if (bt s f = 91 ∨ bt s f = 123) ∧ a = b then []
  else if bt s f = 123 ∨ bt s f = 60 then wrR X W (rec (wi s f)) (wi s f) (b - a + 1) a b
  else rec (wi s f) a b
/-- a factor -/
def wrF (s : ByteArray) (X W : Tb) (rec : Nat → Nat → Nat → List Int) (f a b : Nat) : List Int :=
  bt s f :: (if cN (bt s f) = true then 40 :: (wrI s X W rec f a b ++ [41]) else if cO (bt s f) = true then wrI s X W rec f a b ++ [cC (bt s f)] else [])
/-- an expression -/
def wrE (s u : ByteArray) (R X W : Tb) : Nat → Nat → Nat → Nat → List Int
  | 0, _, _, _ => []
  | n + 1, x, a, b => (48 + ((exC s R x a b).2 : Int)) :: wrFs s u R X W (wrF s X W (wrE s u R X W n)) (fe s ((sts s x).getD (exC s R x a b).2 0)).1 a b
/-- what is written is so long, has that word, and is read -/
structure Wrt (t : ByteArray) (L : List Int) (v : Nat) (ws : List Int) (rd : Nat → Option (Nat × Nat)) : Prop where
  len : L.length = v
  let_ : L.filter (fun c => cL c) = ws
  read : ∀ i, At t i L → ∃ h, rd i = some (i + v, h)
section
variable {s t u : ByteArray} {R X W : Tb}
def SaidW (s t u : ByteArray) (R X W : Tb) (n : Nat) : Prop :=
  ∀ x a b, x < s.size → begs s x = true → a ≤ b → b ≤ u.size → X x a b ≤ n → X x a b ≤ 2000 → ∀ N, n ≤ N → Wrt t (wrE s u R X W n x a b) (X x a b) (ws u a b) (pE s t 0 N x)
theorem wrR_ok (fx : Fix s u R X W) {n N x : Nat} {c : Int} {many : Bool} (hc : cL c = false) (hc0 : c ≠ 0) (hc44 : c ≠ 44) (hm : many = true) (hx : x < s.size) (hb : begs s x = true) (hN : n ≤ N) (ih : SaidW s t u R X W n) :
    ∀ m a b, b - a < m → a ≤ b → b ≤ u.size → W x a b ≤ n → W x a b ≤ 2000 →
      (wrR X W (wrE s u R X W n x) x m a b).length = W x a b ∧ (wrR X W (wrE s u R X W n x) x m a b).filter (fun c => cL c) = ws u a b ∧
      ∀ i, At t i (wrR X W (wrE s u R X W n x) x m a b ++ [c]) → ∀ M top cnt, t.size - i ≤ M → ∃ h, pEl t (pE s t 0 N x) c many 0 M i top cnt = some (i + W x a b + 1, h)
  | 0, a, b, h1, h2, h3, h4, h5 => by omega
  | m + 1, a, b, h1, h2, h3, h4, h5 => by
    have hW := (fx.fix a b h2 h3).row x hx hb
    unfold wrR
    rcases rwC_cases (X := X) (W := W) x a b with k | ⟨e, k1, k2, k3⟩
    · rw [k] at hW ⊢
      simp only at hW ⊢
      rw [if_neg (by omega), List.append_nil]
      obtain ⟨w1, w2, w3⟩ := ih x a b hx hb h2 h3 (by omega) (by omega) N hN
      refine ⟨by omega, w2, fun i hA M top cnt hM => ?_⟩
      obtain ⟨h, hr⟩ := w3 i hA.left
      have hbt : bt t (i + (wrE s u R X W n x a b).length : Nat) = c := hA.right.head
      rw [w1] at hbt
      have := bt_lt (s := t) (p := i + X x a b) (by omega)
      obtain ⟨M', rfl⟩ : ∃ M', M = M' + 1 := ⟨M - 1, by omega⟩
      refine ⟨max top h, ?_⟩
      unfold pEl
      rw [hr]
      simp only
      rw [if_neg (by omega), if_pos hbt, hW]
    · rw [k3] at hW ⊢
      simp only at hW ⊢
      rw [if_pos k2]
      obtain ⟨w1, w2, w3⟩ := ih x a e hx hb (by omega) (by omega) (by omega) (by omega) N hN
      obtain ⟨r1, r2, r3⟩ := wrR_ok fx hc hc0 hc44 hm hx hb hN ih m e b (by omega) (by omega) h3 (by omega) (by omega)
      refine ⟨by simp; omega, ?_, fun i hA M top cnt hM => ?_⟩
      · rw [List.filter_append, w2, List.filter_cons_of_neg (by decide), r2, ← ws_join (by omega) (by omega)]
      · have hA' : At t i (wrE s u R X W n x a e ++ (44 :: (wrR X W (wrE s u R X W n x) x m e b ++ [c]))) := by simpa using hA
        obtain ⟨h, hr⟩ := w3 i hA'.left
        have hA2 := hA'.right
        rw [w1] at hA2
        have hbt : bt t (i + X x a e : Nat) = 44 := hA2.head
        have := bt_lt (s := t) (p := i + X x a e) (by omega)
        obtain ⟨M', rfl⟩ : ∃ M', M = M' + 1 := ⟨M - 1, by omega⟩
        obtain ⟨h', hr'⟩ := r3 (i + X x a e + 1) hA2.tail M' (max top h) (cnt + 1) (by omega)
        refine ⟨h', ?_⟩
        unfold pEl
        rw [hr]
        simp only
        rw [if_neg (by omega), if_neg (by omega), if_pos ⟨hbt, hm⟩, hr', hW]
        congr 2; omega
theorem pE_digit {n x i : Nat} {r : Nat × Nat} (h : pE s t 0 n x i = some r) : cD (bt t i) = true := by
  cases n with
  | zero => cases h
  | succ n =>
    unfold pE at h
    split at h
    · assumption
    · cases h
theorem pEl_digit {n x m i top : Nat} {c cnt : Int} {many : Bool} {r : Nat × Nat} (h : pEl t (pE s t 0 n x) c many 0 m i top cnt = some r) : cD (bt t i) = true := by
  cases m with
  | zero => cases h
  | succ m =>
    unfold pEl at h
    cases hq : pE s t 0 n x i with
    | none => rw [hq] at h; cases h
    | some q => exact pE_digit hq
theorem digit_cC {c d : Int} (h : cD c = true) : ¬ c = cC d := by
  have := cC_vals d
  have : 48 ≤ c ∧ c ≤ 57 := by simpa [cD] using h
  omega
theorem wrF_ok (fx : Fix s u R X W) (g : Gram s) (ins : Ins s) {n N f a b : Nat} (hN : n ≤ N) (ih : SaidW s t u R X W n) (hf : isF s f = true) (h2 : a ≤ b) (h3 : b ≤ u.size) (hv : fcC s u X W f a b ≤ 2000) (hn : fcC s u X W f a b ≤ n + 1) :
    Wrt t (wrF s X W (wrE s u R X W n) f a b) (fcC s u X W f a b) (ws u a b) (pF s t 0 (pE s t 0 N) f) := by
  unfold fcC at hv hn ⊢
  unfold wrF
  by_cases hl : cL (bt s f) = true
  · rw [if_pos hl] at hv hn ⊢
    have hnl : cN (bt s f) = false := by
      have : 97 ≤ bt s f ∧ bt s f ≤ 122 := by simpa [cL] using hl
      simp [cN]; omega
    have hol : cO (bt s f) = false := by
      cases e : cO (bt s f)
      · rfl
      · have := cO_vals e; have : 97 ≤ bt s f ∧ bt s f ≤ 122 := by simpa [cL] using hl
        omega
    split at hv
    · rename_i hc
      rw [if_pos hc, if_neg (by simp [hnl]), if_neg (by simp [hol])]
      obtain ⟨hc1, hc2⟩ := hc
      subst hc1
      refine ⟨rfl, ?_, fun i hA => ?_⟩
      · rw [List.filter_cons_of_pos (by simpa using hl)]
        unfold ws; rw [show a + 1 - a = 1 by omega]; simp [hc2]
      · refine ⟨0, ?_⟩
        unfold pF
        rw [if_neg (by have := hA.head; omega), if_pos hl]
    · omega
  rw [if_neg hl] at hv hn ⊢
  have hl' : cL (bt s f) = false := by simpa using hl
  obtain ⟨hx, hb⟩ := wi_begs g ins hf hl'
  by_cases hnm : cN (bt s f) = true
  · rw [if_pos hnm] at hv hn ⊢
    rw [if_pos hnm]
    have hvn : 65 ≤ bt s f ∧ bt s f ≤ 90 := by simpa [cN] using hnm
    have hI : wrI s X W (wrE s u R X W n) f a b = wrE s u R X W n (wi s f) a b := by
      unfold wrI; rw [if_neg (by omega), if_neg (by omega)]
    rw [hI]
    obtain ⟨w1, w2, w3⟩ := ih (wi s f) a b hx hb h2 h3 (by omega) (by omega) N hN
    refine ⟨by simp; omega, ?_, fun i hA => ?_⟩
    · rw [List.filter_cons_of_neg (by simpa using hl'), List.filter_cons_of_neg (by decide), List.filter_append, w2]
      simp [cL]
    · obtain ⟨h, hr⟩ := w3 (i + 1 + 1) hA.tail.tail.left
      have h40 : bt t ((i + 1 : Nat) : Int) = 40 := hA.tail.head
      have h41 : bt t ((i + 1 + 1 + X (wi s f) a b : Nat) : Int) = 41 := by
        have := hA.tail.tail.right.head; rw [w1] at this; exact this
      refine ⟨h + 1, ?_⟩
      unfold pF
      rw [if_neg (by have := hA.head; omega), if_neg hl, if_pos hnm]
      unfold pN
      rw [if_neg (by omega)]
      have hwi : (rl s (bt s f) + 2).toNat = wi s f := by unfold wi; rw [if_pos hnm]
      rw [hwi, hr]
      simp only
      rw [if_pos h41]
      congr 2; omega
  · rw [if_neg hnm] at hv hn ⊢
    have hn' : cN (bt s f) = false := by simpa using hnm
    have hc0 := isF_cC hf hl' hn'
    have ho : cO (bt s f) = true := by simp [cO, hc0]
    have hov := cO_vals ho
    have hc44 : cC (bt s f) ≠ 44 := by have := cC_vals (bt s f); omega
    rw [if_neg hnm, if_pos ho]
    unfold wrI
    have hwi := wi_open (s := s) (f := f) hn'
    rw [hwi] at hx hb hv hn ⊢
    have hfirst : ∀ i, At t i (bt s f :: ([] : List Int)) → ∀ r, pB s t 0 (pE s t 0 N) f (i + 1) = r → pF s t 0 (pE s t 0 N) f i = r := by
      intro i hA r hr
      unfold pF
      rw [if_neg (by have := hA.head; omega), if_neg hl, if_neg hnm, hr]
    by_cases hem : (bt s f = 91 ∨ bt s f = 123) ∧ a = b
    · rw [if_pos hem, if_pos hem]
      refine ⟨rfl, ?_, fun i hA => ⟨0, ?_⟩⟩
      · have : ws u a b = [] := by unfold ws; rw [hem.2]; simp
        rw [this, List.filter_cons_of_neg (by simpa using hl')]
        simp [cL_cC]
      · refine hfirst i (At.left (A := [bt s f]) (B := [cC (bt s f)]) hA) _ ?_
        unfold pB
        rw [if_pos ⟨hA.tail.head, hem.1⟩]
    · rw [if_neg hem] at hv hn ⊢
      rw [if_neg hem]
      by_cases hls : bt s f = 123 ∨ bt s f = 60
      · rw [if_pos hls] at hv hn ⊢
        rw [if_pos hls]
        obtain ⟨w1, w2, w3⟩ := wrR_ok (t := t) (many := true) fx (cL_cC (bt s f)) hc0 hc44 rfl hx hb hN ih (b - a + 1) a b (by omega) h2 h3 (by omega) (by omega)
        refine ⟨by simp; omega, ?_, fun i hA => ?_⟩
        · rw [List.filter_cons_of_neg (by simpa using hl'), List.filter_append, w2]
          simp [cL_cC]
        · obtain ⟨h, hr⟩ := w3 (i + 1) hA.tail (t.size - (i + 1)) 0 0 (Nat.le_refl _)
          refine ⟨h, hfirst i (At.left (A := [bt s f]) hA) _ ?_⟩
          unfold pB
          rw [if_neg, show decide (bt s f = 123 ∨ bt s f = 60) = true by simpa using hls, hr]
          · congr 2; omega
          · exact fun h => digit_cC (pEl_digit hr) h.1
      · rw [if_neg hls] at hv hn ⊢
        rw [if_neg hls]
        obtain ⟨w1, w2, w3⟩ := ih (f + 1) a b hx hb h2 h3 (by omega) (by omega) N hN
        refine ⟨by simp; omega, ?_, fun i hA => ?_⟩
        · rw [List.filter_cons_of_neg (by simpa using hl'), List.filter_append, w2]
          simp [cL_cC]
        · obtain ⟨h, hr⟩ := w3 (i + 1) hA.tail.left
          have hbt : bt t ((i + 1 + X (f + 1) a b : Nat) : Int) = cC (bt s f) := by
            have := hA.tail.right.head; rw [w1] at this; exact this
          refine ⟨h, hfirst i (At.left (A := [bt s f]) hA) _ ?_⟩
          unfold pB
          rw [if_neg, show decide (bt s f = 123 ∨ bt s f = 60) = false by simpa using hls, pEl_one (fun h => pE_out h), hr]
          · simp only
            rw [if_pos hbt]
            congr 2; omega
          · exact fun h => digit_cC (pE_digit hr) h.1
theorem wrFs_ok (fx : Fix s u R X W) (g : Gram s) (ins : Ins s) {n N : Nat} (hN : n ≤ N) (ih : SaidW s t u R X W n) :
    ∀ M p a b, s.size - p ≤ M → p < s.size → a ≤ b → b ≤ u.size → R p a b ≤ 2000 → R p a b ≤ n →
      (wrFs s u R X W (wrF s X W (wrE s u R X W n)) (fe s p).1 a b).length = R p a b ∧ (wrFs s u R X W (wrF s X W (wrE s u R X W n)) (fe s p).1 a b).filter (fun c => cL c) = ws u a b ∧
      ∀ i top, At t i (wrFs s u R X W (wrF s X W (wrE s u R X W n)) (fe s p).1 a b) → ∃ h, pFs (pF s t 0 (pE s t 0 N)) (fe s p).1 i top = some (i + R p a b, h)
  | 0, p, a, b, hM, hp, h2, h3, hv, hn => by omega
  | M + 1, p, a, b, hM, hp, h2, h3, hv, hn => by
    have hR := (fx.fix a b h2 h3).rest p hp
    cases hf : isF s p
    · rw [fe_no hf]
      have hR' := hR
      unfold rsC at hR'
      rw [if_neg (by simp [hf])] at hR'
      simp only at hR'
      split at hR'
      · rename_i hab
        rw [hR']
        refine ⟨rfl, ?_, fun i top _ => ⟨top, rfl⟩⟩
        simp [wrFs, ws, hab]
      · omega
    · obtain ⟨e, k1, k2, k3⟩ := rsC_cases (u := u) (R := R) (X := X) (W := W) (a := a) (b := b) hf (by omega)
      have hin := ins.beh p hf
      have hbh := bh_bd hf
      rw [k3] at hR
      simp only at hR
      have hpos := fcC_pos (s := s) (u := u) (X := X) (W := W) (f := p) (a := a) (b := e)
      obtain ⟨w1, w2, w3⟩ := wrF_ok (t := t) (N := N) fx g ins hN ih hf k1 (by omega) (by omega) (by omega)
      obtain ⟨r1, r2, r3⟩ := wrFs_ok fx g ins hN ih M (bh s p) e b (by omega) hin k2 h3 (by omega) (by omega)
      rw [fe_yes hf]
      unfold wrFs
      rw [k3]
      simp only
      refine ⟨by simp; omega, ?_, fun i top hA => ?_⟩
      · rw [List.filter_append, w2, r2, ← ws_join k1 k2]
      · obtain ⟨h, hr⟩ := w3 i hA.left
        have hA2 := hA.right
        rw [w1] at hA2
        obtain ⟨h', hr'⟩ := r3 _ (max top h) hA2
        refine ⟨h', ?_⟩
        unfold pFs
        rw [hr]
        simp only
        rw [hr', hR]
        congr 2; omega
theorem wrE_ok (fx : Fix s u R X W) (g : Gram s) (ins : Ins s) : ∀ n, SaidW s t u R X W n
  | 0, x, a, b, hx, hb, h2, h3, hn, hv, N, hN => by
    have hX := (fx.fix a b h2 h3).expr x hx hb
    obtain ⟨k, p, k1, k2, k3⟩ := exC_cases (s := s) (R := R) (x := x) (a := a) (b := b) (by omega)
    rw [k3] at hX
    simp only at hX
    omega
  | n + 1, x, a, b, hx, hb, h2, h3, hn, hv, N, hN => by
    have ih : SaidW s t u R X W n := wrE_ok fx g ins n
    have hX := (fx.fix a b h2 h3).expr x hx hb
    obtain ⟨k, p, k1, k2, k3⟩ := exC_cases (s := s) (R := R) (x := x) (a := a) (b := b) (by omega)
    rw [k3] at hX
    simp only at hX
    obtain ⟨N', rfl⟩ : ∃ N', N = N' + 1 := ⟨N - 1, by omega⟩
    obtain ⟨r1, r2, r3⟩ := wrFs_ok (t := t) (N := N') fx g ins (by omega) ih _ p a b (Nat.le_refl _) (ap_ins ins hx k1) h2 h3 (by omega) (by omega)
    have hk : k ≤ 9 := by
      have h1 : k < (sts s x).length := by
        rw [sts_ap] at k1; exact (List.getElem?_eq_some_iff.1 k1).1
      have h2 : (sts s x).length ≤ 10 := ins.few x hb
      omega
    unfold wrE
    rw [k3]
    simp only
    rw [k2]
    refine ⟨by simp; omega, ?_, fun i hA => ?_⟩
    · rw [List.filter_cons_of_neg (by simp [cL]; omega), r2]
    · have hd : bt t i = 48 + (k : Int) := hA.head
      obtain ⟨h, hr⟩ := r3 (i + 1) 0 hA.tail
      refine ⟨h, ?_⟩
      unfold pE
      rw [if_pos (by rw [hd]; simp [cD]; omega), hd, show (48 + (k : Int) - 48).toNat = k by omega, k1]
      simp only
      rw [hr, hX]
      congr 2; omega
/-- bytes of a text -/
theorem tl_all {L : List Int} (hA : At t 0 L) (hl : t.size = L.length) : tl t 0 t.size = L.filter fun c => cL c := by
  unfold tl
  congr 1
  apply List.ext_getElem
  · simp [hl]
  · intro k h1 h2
    have := hA k h2
    simp at this ⊢
    exact this
/-- what is written of the start -/
def wrS (s u : ByteArray) (R X W : Tb) : List Int := wrF s X W (wrE s u R X W (fcC s u X W 0 0 u.size)) 0 0 u.size
/-- the text that is written is a tree of the grammar, and has the word -/
theorem written_ok (fx : Fix s u R X W) (g : Gram s) (ins : Ins s) (hs : isF s 0 = true) (hv : fcC s u X W 0 0 u.size ≤ 2000) (hA : At t 0 (wrS s u R X W)) (hl : t.size = (wrS s u R X W).length) :
    (∃ h, whole s t 0 = some h) ∧ tl t 0 t.size = ws u 0 u.size := by
  have hw := fun N hN => wrF_ok (t := t) (n := fcC s u X W 0 0 u.size) (N := N) fx g ins hN (wrE_ok fx g ins _) hs (Nat.zero_le _) (Nat.le_refl _) hv (by omega)
  have h1 : (wrS s u R X W).length = fcC s u X W 0 0 u.size := (hw _ (Nat.le_refl _)).len
  obtain ⟨_, w2, w3⟩ := hw (t.size + 1) (by omega)
  obtain ⟨h, hr⟩ := w3 0 hA
  refine ⟨⟨h, ?_⟩, by rw [tl_all hA hl]; exact w2⟩
  unfold whole
  rw [if_neg (by omega), hr]
  simp only
  rw [if_pos (by omega)]
end
end Go.Proofs.YtnfaiaoipeholaaGreatDoor

namespace Go.Proofs.YtnfaiaoipeholaaGreatDoor
open Go.RowKit
/-- bytes as cells -/
def wby (T : List Int) : List Value := T.map (Value.int .u8)
theorem wby_push (T : List Int) (c : Int) : wby (T ++ [c]) = wby T ++ [.int .u8 c] := by simp [wby]
theorem Tryz.infoByteW : (Tryz.prog.info? 5).map (fun i => (i.zero, i.size, i.bytes)) = some (some (.int .u8 0), 1, 1) := by kernel_rfl
/-- a writer in memory -/
structure Wt (w : World) (wb b : Nat) (s u : ByteArray) (r x y q : Nat) (R X W : Tb) (T : List Int) : Prop where
  ch : Ch w b s u r x y q R X W
  lt : wb < w.heap.size
  low : b < wb ∧ r < wb ∧ x < wb ∧ y < wb ∧ q < wb
  ptr : w.cell? ⟨wb, 0, none⟩ = some (.pointer (some ⟨b, 0, none⟩))
  tre : ∃ v, w.cell? ⟨wb, 1, none⟩ = some v ∧ w.ownsRow (wb + 1) 5 1 v T.length (wby T)
  trf : w.frozen? ⟨wb, 1, none⟩ = false
theorem wown_set {w : World} {b o n : Nat} {v u : Value} {t : TypeId} {xs : List Value} (h : w.ownsRow (b + 1) t 1 v n xs) : (w.setCell ⟨b, o, none⟩ u).ownsRow (b + 1) t 1 v n xs := by
  have hb : Below b w (w.setCell ⟨b, o, none⟩ u) := (Below.refl _ _).setCell (p := ⟨b, o, none⟩) (Nat.le_refl _) u
  refine h.kept (row := some b) ⟨hb.os, hb.tape, hb.output, hb.size, fun k hk hne => Below.heap_setCell w _ u k (fun e => hne (by rw [e]))⟩ ?_
  cases hv : v.ownBlock with
  | none => exact .inl rfl
  | some k =>
    have := (h.lt k hv).1
    exact .inr (fun e => by injection e with e; omega)
section
variable {w : World} {wb b : Nat} {s u : ByteArray} {r x y q : Nat} {R X W : Tb} {T : List Int}
theorem tab_under {w w' : World} {b o g S n B : Nat} {T : Tb} (h : Tab w b o g S n T) (hb : Below B w w') (h1 : b < B) (h2 : g < B) : Tab w' b o g S n T :=
  ⟨(hb.cell (p := ⟨b, o, none⟩) h1).trans h.en, (hb.cell (p := ⟨b, o + 1, none⟩) h1).trans h.bts, fun p a e q1 q2 q3 => (hb.cell (p := ⟨g, ix n p a e, none⟩) h2).trans (h.at_ p a e q1 q2 q3), fun p a e q1 q2 q3 => (hb.frozen (p := ⟨g, ix n p a e, none⟩) h2).trans (h.fz p a e q1 q2 q3), h.out⟩
theorem Ch.under {w' : World} (h : Ch w b s u r x y q R X W) {B : Nat} (hb : Below B w w') (hl : b < B ∧ r < B ∧ x < B ∧ y < B ∧ q < B) : Ch w' b s u r x y q R X W :=
  ⟨(hb.cell (p := ⟨b, 0, none⟩) hl.1).trans h.gram, (hb.cell (p := ⟨b, 1, none⟩) hl.1).trans h.word, (hb.cell (p := ⟨b, 2, none⟩) hl.1).trans h.sl, fun p hp => (hb.cell (p := ⟨q, p * 4, none⟩) hl.2.2.2.2).trans (h.s0 p hp), fun p hp => (hb.cell (p := ⟨q, p * 4 + 1, none⟩) hl.2.2.2.2).trans (h.s1 p hp), fun p hp => (hb.cell (p := ⟨q, p * 4 + 2, none⟩) hl.2.2.2.2).trans (h.s2 p hp), fun p hp => (hb.cell (p := ⟨q, p * 4 + 3, none⟩) hl.2.2.2.2).trans (h.s3 p hp), tab_under h.tr hb hl.1 hl.2.1, tab_under h.tx hb hl.1 hl.2.2.1, tab_under h.ty hb hl.1 hl.2.2.2.1, h.hs, h.hu, h.ne⟩
theorem Wt.below {w' : World} (h : Wt w wb b s u r x y q R X W T) (hb : Below w.heap.size w w') : Wt w' wb b s u r x y q R X W T := by
  obtain ⟨v, h1, h2⟩ := h.tre
  refine ⟨h.ch.below hb, Nat.lt_of_lt_of_le h.lt hb.size, h.low, (hb.cell (p := ⟨wb, 0, none⟩) h.lt).trans h.ptr, ⟨v, (hb.cell (p := ⟨wb, 1, none⟩) h.lt).trans h1, ?_⟩, (hb.frozen (p := ⟨wb, 1, none⟩) h.lt).trans h.trf⟩
  exact h2.kept (row := none) ⟨hb.os, hb.tape, hb.output, hb.size, fun k hk _ => hb.block k hk⟩ (by
    cases hv : v.ownBlock with
    | none => exact .inl rfl
    | some k => exact .inr (fun e => by cases e))

set_option maxHeartbeats 400000 in
set_option maxRecDepth 1000000 in
theorem wwrite_any (hm : Wt w wb b s u r x y q R X W T) (hT : T.length ≤ 10000) (c : Int) : Calls Tryz.prog 111 #[.pointer (some ⟨wb, 0, none⟩), .int .u8 c] w fun e w' => e = .returned (.tuple #[]) ∧ Wt w' wb b s u r x y q R X W (T ++ [c]) ∧ Below wb w w' := by
  obtain ⟨v, h1, h2⟩ := hm.tre
  obtain ⟨i1, hi1, hy0, hy1, hy2⟩ := info_parts Tryz.infoByteW
  have h3 := hm.trf
  have HM := hide hm
  go_enter Tryz.func111, Tryz.ntmps111
  go_wp2_with (first | (at_builtin; refine wpList_append_lies _ rfl _ _ 83 rfl (wb + 1) 5 i1 (.int .u8 0) 1 1 Tryz.underlying83 hi1 hy0 hy1 hy2 rfl (by decide) _ _ _ rfl (h2.alloc _) ⟨_, 0, none⟩ 1 1 [.int .u8 c] rfl rfl ?c1 ?c2 ?c3 ?c4 ?c5 ?c6 _ rfl ?_))
  case c1 => exact World.news_of_block (heap_alloc_new _ _)
  case c2 => intro u hu; simp at hu; subst hu; rfl
  case c3 => omega
  case c4 => unfold maxLen; omega
  case c5 => omega
  case c6 => have := hm.lt; simp; omega
  · intro g1 cap1 w3 hown3 hg3 hb3 hlt3
    have hbel : Below (wb + 1) w w3 := ((Below.refl (wb + 1) w).alloc (by have := hm.lt; omega) _).grown hg3 (by have := hm.lt; simp; omega) (fun j hj => (h2.lt j hj).1)
    have hc : ∀ o, w3.cell? ⟨wb, o, none⟩ = w.cell? ⟨wb, o, none⟩ := fun o => hbel.cell (p := ⟨wb, o, none⟩) (Nat.lt_succ_self wb)
    have hf : ∀ o, w3.frozen? ⟨wb, o, none⟩ = w.frozen? ⟨wb, o, none⟩ := fun o => hbel.frozen (p := ⟨wb, o, none⟩) (Nat.lt_succ_self wb)
    have k1 := (hc 1).trans h1
    have k2 := (hf 1).trans h3
    have HC := hide hc; have HF := hide hf; have HO := hide hown3; have HB := hide hbel
    clear hc hf hown3 hbel hg3 hb3
    go_wp2
    go_end0
    have hb9 : Below wb w (w3.setCell ⟨wb, 1, none⟩ (.slice (some ⟨g1, 0, none⟩) (T.length + 1) cap1)) := Below.setCell (B := wb) ((unhide HB).mono (Nat.le_succ wb)) (p := ⟨wb, 1, none⟩) (Nat.le_refl wb) _
    refine ⟨rfl, ?_, hb9⟩
    have hm := unhide HM
    refine ⟨hm.ch.under hb9 hm.low, ?_, hm.low, ?_, ⟨_, World.cell?_setCell_same w3 _ _ k1, ?_⟩, by rw [World.frozen?_setCell]; exact k2⟩
    · have := hm.lt; have := (unhide HB).size; simp; omega
    · exact ((World.cell?_setCell_other w3 _ _ _ (fun e => by injection e with _ e; omega)).trans (unhide HC 0)).trans hm.ptr
    · rw [wby_push]
      have := wown_set (b := wb) (o := 1) (u := .slice (some ⟨g1, 0, none⟩) (T.length + 1) cap1) (unhide HO)
      simpa using this
end
end Go.Proofs.YtnfaiaoipeholaaGreatDoor
