/- PMaker PMakeE MakeMath PMakeT -/
import Derived.Test.YtnfaiaoipeholaaGreatDoorAa10
import Derived.Test.YtnfaiaoipeholaaGreatDoorAa09
import Derived.Laws.BytesArg
import Derived.Test.YtnfaiaoipeholaaGreatDoorAa05
import Derived.Laws.OwnMore
import Derived.Great.BuildSlice
namespace Go.Proofs.YtnfaiaoipeholaaGreatDoor
open Go.RowKit

/-- what stands beside a maker -/
structure Ev (s c : ByteArray) (m : Nat) (P : Nat → Int) : Prop where
  gram : Gram s
  ten : Ten s
  hc : c.size ≤ maxLen
  hm : 1 ≤ m ∧ m ≤ 5
  fit : ∀ l i, l ≤ 9 → Occ s i → nmP P (l : Nat) i = nFit s l i
/-- what a making leaves -/
def OutM (b : Nat) (s c : ByteArray) (m : Nat) (P : Nat → Int) (w : World) (T : List Int) (p : Nat × List Int) (B : Nat) (e : Ending) (w' : World) : Prop :=
  e = .returned (.tuple #[]) ∧ ∃ a' T', Mk w' b s c m P a' T' ∧ Below b w w' ∧ Ends T p a' T' ∧ a' ≤ T'.length ∧ T'.length ≤ B
/-- expressions, to this depth -/
def SaidM (b : Nat) (s c : ByteArray) (m : Nat) (P : Nat → Int) (n : Nat) : Prop :=
  ∀ (q lq : Int) (x l a : Nat) (T : List Int) (w : World), Mk w b s c m P a T → q = x → lq = l → x ≤ s.size → l ≤ 9 → (sts s x).length ≤ 10 → expFit s (nFit s l) x = true → dep s l x < n → T.length ≤ 2002 → a ≤ T.length →
    Calls Tryz.prog 137 #[.pointer (some ⟨b, 0, none⟩), .int .i64 q, .int .i64 lq] w fun e w' => OutM b s c m P w T (genE s c m n l x a) (2003 + n) e w'

section
variable {b : Nat} {s c : ByteArray} {m : Nat} {P : Nat → Int}

theorem nFit_pos {l i : Nat} (h : nFit s l i = true) : 0 < l := by
  cases l with
  | zero => cases h
  | succ l => omega
/-- a name's expression -/
theorem name_place (g : Gram s) (ten : Ten s) {f : Nat} (hf : cN (bt s f) = true) : ∃ j : Nat, rl s (bt s f) = (j : Int) ∧ j < s.size ∧ j + 2 ≤ s.size ∧ (sts s (j + 2)).length ≤ 10 ∧ (rl s (bt s f) + 2).toNat = j + 2 := by
  obtain ⟨j, h1, h2, h3, _⟩ := g.name f hf
  exact ⟨j, h1, h2, (g.rule j h2 h3).2.2.1, ten.rule j h2 h3, by omega⟩
theorem name_fit {l f : Nat} (hf : cN (bt s f) = true) (h : nFit s l (bt s f - 65).toNat = true) : expFit s (nFit s (l - 1)) (rl s (bt s f) + 2).toNat = true := by
  have hv : 65 ≤ bt s f ∧ bt s f ≤ 90 := by simpa [cN] using hf
  cases l with
  | zero => cases h
  | succ l =>
    have e : ((65 + (bt s f - 65).toNat : Nat) : Int) = bt s f := by omega
    have h' : expFit s (nFit s l) (rl s (65 + (bt s f - 65).toNat : Nat) + 2).toNat = true := h
    rw [e] at h'; exact h'

set_option maxHeartbeats 1000000 in
theorem makeName_any (v : Ev s c m P) {n : Nat} (hn : n ≤ 5000) (hE : SaidM b s c m P n) (lq : Int) (f l a : Nat) (T : List Int) (w : World) (hk : Mk w b s c m P a T) (hl : lq = l) (hl9 : l ≤ 9) (hf : cN (bt s f) = true) (hfit : nFit s l (bt s f - 65).toNat = true)
    (hd : ∀ y, dep s (l - 1) y < n) (hT : T.length ≤ 2001) (ha : a ≤ T.length) :
    Calls Tryz.prog 96 #[.pointer (some ⟨b, 0, none⟩), .int .u8 (bt s f), .int .i64 lq] w fun e w' => OutM b s c m P w T (genN s (genE s c m n) l f a) (2004 + n) e w' := by
  subst hl
  have hs := v.gram.small
  have hpos := nFit_pos hfit
  obtain ⟨j, j1, j2, j3, j4, j5⟩ := name_place v.gram v.ten hf
  have hex := name_fit hf hfit
  rw [j5] at hex
  have c0 := hk.gd.gram
  generalize hR : genN s (genE s c m n) l f a = R
  unfold genN at hR
  rw [j5] at hR
  have HR := hide hR
  have HJ := hide j1
  have HX := hide hex
  have HK := hide hk
  have H4 := hide j4
  have HD := hide (hd (j + 2))
  clear hR hex hk j1 j4 j5 hfit hf hd
  generalize bt s f = nm at *
  go_enter Tryz.func96, Tryz.ntmps96
  go_wp2_with (first
    | (go_at_call 88; refine (expression_any s _ j _ hs (unhide HJ) j2).mono ?_; rintro e w' ⟨rfl, hw⟩; replace hw := hw.symm; subst hw)
    | (go_at_call 137; refine (hE _ _ (j + 2) (l - 1) a _ _ (unhide hk1) (by go_num) (by omega) j3 (by omega) (unhide H4) (unhide HX) (unhide HD) (by simp; omega) (by simp; omega)).mono ?_; rintro e w2 ⟨rfl, a2, T2, hk2, hb2, he2, ha2, hT2⟩; replace hk2 := hide hk2; replace hb2 := hide hb2; replace he2 := hide he2)
    | (go_at_call 95; refine (write_any (unhide hk2) (by omega) 41).mono ?_; rintro e w3 ⟨rfl, hk3, hb3⟩; replace hk3 := hide hk3; replace hb3 := hide hb3)
    | (go_at_call 95; refine (write_any (unhide HK) (by omega) 40).mono ?_; rintro e w1 ⟨rfl, hk1, hb1⟩; replace hk1 := hide hk1; replace hb1 := hide hb1))
  go_end0
  refine ⟨rfl, a2, T2 ++ [41], unhide hk3, ((unhide hb1).trans (unhide hb2)).trans (unhide hb3), ?_, by simp; omega, by simp; omega⟩
  have h1 := (Ends.put T [40] a).seq (q := genE s c m n (l - 1) (j + 2)) (unhide he2)
  refine h1.seq' (q := fun a => (a, [41])) (Ends.put T2 [41] a2) ?_
  rw [← unhide HR]; simp

/-- with fewer elements it begins the same -/
theorem elsG_pre (rec : Nat → Nat × List Int) (a : Nat) : ∀ k n, k ≤ n → ∃ r, (elsG rec a n).2 = (elsG rec a k).2 ++ r
  | k, 0, h => ⟨[], by have : k = 0 := by omega
                       subst this; simp⟩
  | k, n + 1, h => by
    by_cases e : k = n + 1
    · subst e; exact ⟨[], by simp⟩
    · obtain ⟨r, hr⟩ := elsG_pre rec a k n (by omega)
      exact ⟨r ++ ((if n = 0 then [] else [44]) ++ (rec (elsG rec a n).1).2), by simp only [elsG]; rw [hr]; simp⟩
theorem cnt_eq (v : Ev s c m P) {l f : Nat} (hl : l ≤ 9) : cntP s (nmP P (l : Nat)) m f = cnt s m l f := by
  unfold cntP cnt
  rw [expFit_congr (fun i hi => v.fit l i hl hi)]
theorem few_fit {l f : Nat} (hO : cO (bt s f) = true) (hf : facFit s (nFit s l) (expFit s (nFit s l)) f = true) (a : Nat) (h : 0 < few (bt s f) + wayN c a (cnt s m l f)) : expFit s (nFit s l) (f + 1) = true := by
  have hN : cN (bt s f) = false := by
    have := cO_vals hO
    simp [cN]; omega
  unfold facFit at hf
  rw [if_neg (by simp [hN])] at hf
  by_cases e : bt s f = 40 ∨ bt s f = 60
  · rw [if_pos e] at hf; exact hf
  · unfold few at h
    rw [if_neg e] at h
    by_cases h2 : expFit s (nFit s l) (f + 1) = true
    · exact h2
    · unfold cnt wayN at h
      rw [if_neg h2] at h
      simp at h
theorem cnt_bd (hm : 1 ≤ m ∧ m ≤ 5) (l f : Nat) : 1 ≤ cnt s m l f ∧ cnt s m l f ≤ 6 := by
  unfold cnt grt few; split <;> (try split) <;> (try split) <;> omega

set_option maxHeartbeats 1000000 in
set_option maxRecDepth 1000000 in
theorem makeBracket_any (v : Ev s c m P) {n : Nat} (hn : n ≤ 5000) (hE : SaidM b s c m P n) (q lq : Int) (f l a : Nat) (T : List Int) (w : World) (hk : Mk w b s c m P a T) (hq : q = f) (hl : lq = l) (hl9 : l ≤ 9) (hf : isF s f = true) (hO : cO (bt s f) = true) (hfit : facFit s (nFit s l) (expFit s (nFit s l)) f = true)
    (hd : dep s l (f + 1) < n) (hT : T.length ≤ 2001) (ha : a + 1 ≤ T.length) :
    Calls Tryz.prog 97 #[.pointer (some ⟨b, 0, none⟩), .int .i64 q, .int .i64 lq] w fun e w' => OutM b s c m P w T (genB s c m (genE s c m n) l f a) (2004 + n) e w' := by
  subst hq hl
  have hs := v.gram.small
  have hs' : s.size ≤ maxLen := by unfold maxLen; omega
  have hfl := isF_lt hf
  have c0 := hk.gd.gram
  have hce := cnt_eq v (l := l) (f := f) hl9
  have hcb := cnt_bd (s := s) v.hm l f
  obtain ⟨hcb1, hcb2⟩ := hcb
  have hwl := wayN_lt c a (cnt s m l f) (by omega)
  have hwa := wayA_le a (cnt s m l f)
  have hff := few_fit (c := c) (m := m) hO hfit a
  have hfew : few (bt s f) ≤ 1 := by unfold few; split <;> omega
  have ht10 := v.ten.sub f hO
  generalize hR : genB s c m (genE s c m n) l f a = R
  unfold genB at hR
  generalize hcnt : cnt s m l f = C at *
  generalize hway : wayN c a C = W at *
  generalize hA : wayA a C = A at *
  generalize hFw : few (bt s f) = F at *
  have HR := hide hR
  have HCE := hide hce
  have HWAY := hide hway
  have HA := hide hA
  have HFW := hide hFw
  have HFF := hide hff
  have HK := hide hk
  have H10 := hide ht10
  have HD := hide hd
  have HF := hide hf
  have HO := hide hO
  clear hR hce hway hA hFw hff hk ht10 hd hf hO hfit hcnt
  go_enter Tryz.func97, Tryz.ntmps97
  go_wp2_with (first
    | (go_at_call 87; refine (at_any _ _ _ hs').mono ?_; rintro e w' ⟨rfl, hw⟩; replace hw := hw.symm; subst hw)
    | (go_at_call 138; refine (counts_any v.ten hs _ f m b _ (unhide HK).gd v.hm rfl (unhide HF) (unhide HO)).mono ?_; rw [unhide HCE]; rintro e w' ⟨rfl, hw⟩; replace hw := hw.symm; subst hw)
    | (go_at_call 139; refine (choose_any (unhide HK) v.hc (by omega) _ C rfl (by omega)).mono ?_; rw [unhide HWAY, unhide HA]; rintro e w1 ⟨rfl, hk1, hb1⟩; replace hk1 := hide hk1; replace hb1 := hide hb1)
    | (go_at_call 93; refine (fewest_any _ _).mono ?_; rw [unhide HFW]; rintro e w' ⟨rfl, hw⟩; replace hw := hw.symm; subst hw))
  go_loopw [10] (fun iv wr => ∃ (k a1 : Nat) (T1 : List Int), iv = .int .i64 k ∧ k ≤ F + W ∧ Hid (Mk wr b s c m P a1 T1) ∧ Hid (Below b w wr) ∧ Hid (Ends T (elsG (genE s c m n l (f + 1)) A k) a1 T1) ∧ a1 ≤ T1.length ∧ T1.length ≤ 2003 + n) (fun iv _ => 30 - (intOf iv).toNat)
  case atStart => exact ⟨0, A, T, by go_num, Nat.zero_le _, hk1, hb1, hide (Ends.nil T A), by omega, by omega⟩
  case round =>
    obtain ⟨k, a1, T1, rfl, hkc, hM, hB, hEn, ha1, hT1⟩ := hrel
    by_cases hlt : k < F + W
    · by_cases hbig : 2000 < T1.length
      · have hbig' : Hid (decide (2000 < T1.length) = true) := hide (by simp [hbig])
        have HE : Hid (Ends T R a1 (T1 ++ [cC (bt s f)])) := hide (by
          obtain ⟨r, hr⟩ := elsG_pre (genE s c m n l (f + 1)) A k (F + W) (by omega)
          have h1 := (unhide hEn).cut hbig (elsG (genE s c m n l (f + 1)) A (F + W)).1 r
          refine h1.seq' (q := fun a => (a, [cC (bt s f)])) (Ends.put T1 [cC (bt s f)] a1) ?_
          rw [← unhide HR, hr])
        clear hEn
        go_wp2_with (first
          | (go_at_call 54; refine (isBig_any (unhide hM) (by omega)).mono ?_; rw [unhide hbig']; rintro e w' ⟨rfl, hw⟩; replace hw := hw.symm; subst hw)
          | (go_at_call 113; refine (closing_any _ _).mono ?_; rintro e w' ⟨rfl, hw⟩; replace hw := hw.symm; subst hw)
          | (go_at_call 95; refine (write_any (unhide hM) (by omega) _).mono ?_; rintro e w3 ⟨rfl, hk3, hb3⟩; replace hk3 := hide hk3; replace hb3 := hide hb3))
        go_end0
        exact ⟨rfl, a1, _, unhide hk3, (unhide hB).trans (unhide hb3), unhide HE, by simp; omega, by simp; omega⟩
      · have hbig' : Hid (decide (2000 < T1.length) = false) := hide (by simp [hbig])
        have hex := hide (unhide HFF (by omega))
        by_cases hk0 : k = 0
        · subst hk0
          go_wp2_with (first
            | (go_at_call 54; refine (isBig_any (unhide hM) (by omega)).mono ?_; rw [unhide hbig']; rintro e w' ⟨rfl, hw⟩; replace hw := hw.symm; subst hw)
            | (go_at_call 137; refine (hE _ _ (f + 1) l a1 _ _ (unhide hM) (by go_num) rfl (by omega) hl9 (unhide H10) (unhide hex) (unhide HD) (by omega) ha1).mono ?_; rintro e w2 ⟨rfl, a2, T2, hk2, hb2, he2, ha2, hT2⟩; replace hk2 := hide hk2; replace hb2 := hide hb2; replace he2 := hide he2))
          go_roundw
          case rel => exact ⟨1, a2, T2, by go_num, by omega, hk2, hide ((unhide hB).trans (unhide hb2)), hide ((unhide hEn).seq (q := fun a => ((genE s c m n l (f + 1) a).1, [] ++ (genE s c m n l (f + 1) a).2)) (by simpa using unhide he2)), ha2, hT2⟩
          case measure => simp [intOf]
        · have hk0' : decide ((k : Int) > 0) = true := by simp; omega
          go_wp2_with (first
            | (go_at_call 54; refine (isBig_any (unhide hM) (by omega)).mono ?_; rw [unhide hbig']; rintro e w' ⟨rfl, hw⟩; replace hw := hw.symm; subst hw)
            | (go_at_call 95; refine (write_any (unhide hM) (by omega) _).mono ?_; rintro e w3 ⟨rfl, hk3, hb3⟩; replace hk3 := hide hk3; replace hb3 := hide hb3)
            | (go_at_call 137; refine (hE _ _ (f + 1) l a1 _ _ (unhide hk3) (by go_num) rfl (by omega) hl9 (unhide H10) (unhide hex) (unhide HD) (by simp; omega) (by simp; omega)).mono ?_; rintro e w2 ⟨rfl, a2, T2, hk2, hb2, he2, ha2, hT2⟩; replace hk2 := hide hk2; replace hb2 := hide hb2; replace he2 := hide he2))
          go_roundw
          case rel =>
            refine ⟨k + 1, a2, T2, by go_num, by omega, hk2, hide (((unhide hB).trans (unhide hb3)).trans (unhide hb2)), hide ?_, ha2, hT2⟩
            have h1 := (Ends.put T1 [44] a1).seq (q := genE s c m n l (f + 1)) (unhide he2)
            refine (unhide hEn).seq' (q := fun a => ((genE s c m n l (f + 1) a).1, [44] ++ (genE s c m n l (f + 1) a).2)) h1 ?_
            simp only [elsG]; rw [if_neg hk0]
          case measure => simp [intOf]; omega
    · have hkc' : k = F + W := by omega
      subst hkc'
      have HE : Hid (Ends T R a1 (T1 ++ [cC (bt s f)])) := hide (by
        refine (unhide hEn).seq' (q := fun a => (a, [cC (bt s f)])) (Ends.put T1 [cC (bt s f)] a1) ?_
        rw [← unhide HR])
      clear hEn
      go_wp2_with (first
        | (go_at_call 113; refine (closing_any _ _).mono ?_; rintro e w' ⟨rfl, hw⟩; replace hw := hw.symm; subst hw)
        | (go_at_call 95; refine (write_any (unhide hM) (by omega) _).mono ?_; rintro e w3 ⟨rfl, hk3, hb3⟩; replace hk3 := hide hk3; replace hb3 := hide hb3))
      go_end0
      exact ⟨rfl, a1, _, unhide hk3, (unhide hB).trans (unhide hb3), unhide HE, by simp; omega, by simp; omega⟩

set_option maxHeartbeats 1000000 in
theorem makeFactor_any (v : Ev s c m P) {n : Nat} (hn : n ≤ 5000) (hE : SaidM b s c m P n) (q lq : Int) (x f l a : Nat) (T : List Int) (w : World) (hk : Mk w b s c m P a T) (hq : q = f) (hl : lq = l) (hl9 : l ≤ 9) (hf : isF s f = true) (hfit : facFit s (nFit s l) (expFit s (nFit s l)) f = true)
    (hx : x ≤ f) (hd : dep s l x < n + 1) (hT : T.length ≤ 2000) (ha : a ≤ T.length) :
    Calls Tryz.prog 53 #[.pointer (some ⟨b, 0, none⟩), .int .i64 q, .int .i64 lq] w fun e w' => OutM b s c m P w T (genF s c m (genE s c m n) l f a) (2004 + n) e w' := by
  subst hq hl
  have hs := v.gram.small
  have hs' : s.size ≤ maxLen := by unfold maxLen; omega
  have hfl := isF_lt hf
  have c0 := hk.gd.gram
  have hd1 : dep s l (f + 1) < n := by have := dep_sub (s := s) (l := l) hx hfl; omega
  cases h2 : cN (bt s f)
  · cases h3 : cO (bt s f)
    · have hR : genF s c m (genE s c m n) l f a = (a, [bt s f]) := by unfold genF; rw [if_neg (by simp [h2]), if_neg (by simp [h3])]
      rw [hR]
      have h2' := hide h2; have h3' := hide h3; have HK := hide hk
      clear h2 h3 hR hfit hd hd1 hf hk
      go_enter Tryz.func53, Tryz.ntmps53
      go_wp2_with (first
        | (go_at_call 87; refine (at_any _ _ _ hs').mono ?_; rintro e w' ⟨rfl, hw⟩; replace hw := hw.symm; subst hw)
        | (go_at_call 86; refine (isName_any _ _).mono ?_; rw [unhide h2']; rintro e w' ⟨rfl, hw⟩; replace hw := hw.symm; subst hw)
        | (go_at_call 92; refine (isOpening_any _ _).mono ?_; rw [unhide h3']; rintro e w' ⟨rfl, hw⟩; replace hw := hw.symm; subst hw)
        | (go_at_call 95; refine (write_any (unhide HK) (by omega) _).mono ?_; rintro e w1 ⟨rfl, hk1, hb1⟩; replace hk1 := hide hk1; replace hb1 := hide hb1))
      go_end0
      exact ⟨rfl, a, _, unhide hk1, unhide hb1, Ends.put T [bt s f] a, by simp; omega, by simp; omega⟩
    · have hR : genF s c m (genE s c m n) l f a = ((genB s c m (genE s c m n) l f a).1, bt s f :: (genB s c m (genE s c m n) l f a).2) := by unfold genF; rw [if_neg (by simp [h2]), if_pos h3]
      rw [hR]
      have h2' := hide h2; have h3' := hide h3; have HK := hide hk; have HF := hide hf; have HFI := hide hfit; have HD := hide hd1
      clear h2 h3 hR hfit hd hd1 hf hk
      go_enter Tryz.func53, Tryz.ntmps53
      go_wp2_with (first
        | (go_at_call 87; refine (at_any _ _ _ hs').mono ?_; rintro e w' ⟨rfl, hw⟩; replace hw := hw.symm; subst hw)
        | (go_at_call 86; refine (isName_any _ _).mono ?_; rw [unhide h2']; rintro e w' ⟨rfl, hw⟩; replace hw := hw.symm; subst hw)
        | (go_at_call 92; refine (isOpening_any _ _).mono ?_; rw [unhide h3']; rintro e w' ⟨rfl, hw⟩; replace hw := hw.symm; subst hw)
        | (go_at_call 95; refine (write_any (unhide HK) (by omega) _).mono ?_; rintro e w1 ⟨rfl, hk1, hb1⟩; replace hk1 := hide hk1; replace hb1 := hide hb1)
        | (go_at_call 97; refine (makeBracket_any v hn hE _ _ f l a _ _ (unhide hk1) rfl rfl hl9 (unhide HF) (unhide h3') (unhide HFI) (unhide HD) (by simp; omega) (by simp; omega)).mono ?_; rintro e w2 ⟨rfl, a2, T2, hk2, hb2, he2, ha2, hT2⟩; replace hk2 := hide hk2; replace hb2 := hide hb2; replace he2 := hide he2))
      go_end0
      exact ⟨rfl, a2, T2, unhide hk2, (unhide hb1).trans (unhide hb2), (Ends.put T [bt s f] a).seq (q := genB s c m (genE s c m n) l f) (unhide he2), ha2, hT2⟩
  · have hR : genF s c m (genE s c m n) l f a = ((genN s (genE s c m n) l f a).1, bt s f :: (genN s (genE s c m n) l f a).2) := by unfold genF; rw [if_pos h2]
    have h3 : cO (bt s f) = false := by
      have hv : 65 ≤ bt s f ∧ bt s f ≤ 90 := by simpa [cN] using h2
      cases e : cO (bt s f)
      · rfl
      · have := cO_vals e; omega
    have hfn : nFit s l (bt s f - 65).toNat = true := by unfold facFit at hfit; rw [if_pos h2] at hfit; exact hfit
    have hdn : ∀ y, dep s (l - 1) y < n := fun y => by have := dep_name (s := s) (l := l) (x := x) (y := y) (by omega) (nFit_pos hfn); omega
    rw [hR]
    have h2' := hide h2; have h3' := hide h3; have HK := hide hk; have HFN := hide hfn; have HD := hide hdn
    clear h2 h3 hR hfit hd hd1 hf hk hfn hdn
    go_enter Tryz.func53, Tryz.ntmps53
    go_wp2_with (first
      | (go_at_call 87; refine (at_any _ _ _ hs').mono ?_; rintro e w' ⟨rfl, hw⟩; replace hw := hw.symm; subst hw)
      | (go_at_call 86; refine (isName_any _ _).mono ?_; rw [unhide h2']; rintro e w' ⟨rfl, hw⟩; replace hw := hw.symm; subst hw)
      | (go_at_call 92; refine (isOpening_any _ _).mono ?_; rw [unhide h3']; rintro e w' ⟨rfl, hw⟩; replace hw := hw.symm; subst hw)
      | (go_at_call 95; refine (write_any (unhide HK) (by omega) _).mono ?_; rintro e w1 ⟨rfl, hk1, hb1⟩; replace hk1 := hide hk1; replace hb1 := hide hb1)
      | (go_at_call 96; refine (makeName_any v hn hE _ f l a _ _ (unhide hk1) rfl hl9 (unhide h2') (unhide HFN) (unhide HD) (by simp; omega) (by simp; omega)).mono ?_; rintro e w2 ⟨rfl, a2, T2, hk2, hb2, he2, ha2, hT2⟩; replace hk2 := hide hk2; replace hb2 := hide hb2; replace he2 := hide he2))
    go_end0
    exact ⟨rfl, a2, T2, unhide hk2, (unhide hb1).trans (unhide hb2), (Ends.put T [bt s f] a).seq (q := genN s (genE s c m n) l f) (unhide he2), ha2, hT2⟩
end
end Go.Proofs.YtnfaiaoipeholaaGreatDoor

namespace Go.Proofs.YtnfaiaoipeholaaGreatDoor
open Go.RowKit
section
variable {b : Nat} {s c : ByteArray} {m : Nat} {P : Nat → Int}

theorem filter_eq (v : Ev s c m P) {l : Nat} (hl : l ≤ 9) (x k : Nat) : ((List.range k).filter fun j => altFit s (nmP P (l : Nat)) (expFit s (nmP P (l : Nat))) (fe s ((sts s x).getD j 0)).1) = ((List.range k).filter fun j => altFit s (nFit s l) (expFit s (nFit s l)) (fe s ((sts s x).getD j 0)).1) := by
  congr 1; funext j
  exact altFit_cong (fun i hi => v.fit l i hl hi) _
theorem ways_eq (v : Ev s c m P) {l : Nat} (hl : l ≤ 9) (x : Nat) : wayK s (nmP P (l : Nat)) x (sts s x).length = (fitL s l x).length := by
  unfold wayK fitL; rw [filter_eq v hl]

set_option maxHeartbeats 1000000 in
set_option maxRecDepth 1000000 in
theorem makeExpression_any (v : Ev s c m P) {n : Nat} (hn : n ≤ 5000) (hE : SaidM b s c m P n) : SaidM b s c m P (n + 1) := by
  intro q lq x l a T w hk hq hl hx hl9 h10 hfit hd hT ha
  subst hq hl
  have hs := v.gram.small
  have c0 := hk.gd.gram
  have hX : SaidG s m P (l : Nat) (s.size + 1) := expressionFits_all v.ten hs _
  have hw1 : wayK s (nmP P (l : Nat)) x (min 10 (sts s x).length) = (fitL s l x).length := by rw [Nat.min_eq_right h10, ways_eq v hl9]
  have hLb := fitL_len s l x
  have hL0 := fitL_ne hfit
  have hWL := wayN_lt c a _ hL0
  have hwa := wayA_le a (fitL s l x).length
  have hg : ((List.range (sts s x).length).filter fun j => altFit s (nmP P (l : Nat)) (expFit s (nmP P (l : Nat))) (fe s ((sts s x).getD j 0)).1).getD (wayN c a (fitL s l x).length) 0 = gone s c l x a := by
    rw [filter_eq v hl9]; rfl
  have hWK : wayN c a (fitL s l x).length < wayK s (nmP P (l : Nat)) x (sts s x).length := by rw [ways_eq v hl9]; exact hWL
  obtain ⟨hG1, hG2⟩ := fitL_mem (gone_mem (c := c) (a := a) hfit)
  have hap : ap s (gone s c l x a) x = some ((sts s x).getD (gone s c l x a) 0) := by
    rw [sts_ap, List.getD_eq_getElem?_getD, List.getElem?_eq_getElem hG1]; rfl
  have hy := ap_bd hap
  generalize hR : genE s c m (n + 1) l x a = R
  unfold genE at hR
  generalize gone s c l x a = G at *
  generalize (sts s x).getD G 0 = y at *
  generalize hLL : (fitL s l x).length = L at *
  generalize hWW : wayN c a L = W at *
  generalize hAA : wayA a L = A at *
  have HR := hide hR
  have HG2 := hide hG2
  have HW1 := hide hw1
  have HWW := hide hWW
  have HAA := hide hAA
  have HWK := hide hWK
  have HG := hide hg
  have HAP : Hid (pl (ap s G x) = (y : Int)) := hide (by rw [hap]; rfl)
  have H10 := hide h10
  have HK := hide hk
  have hG9 : G ≤ 9 := by omega
  have hL10 : L ≤ 10 := by omega
  clear hR hG2 hw1 hWW hAA hWK hg hap h10 hk hfit hLL hLb
  go_enter Tryz.func137, Tryz.ntmps137
  go_wp2_with (first
    | (go_at_call 136; refine (alternatives_any v.ten hs hX _ _ x 10 b _ (unhide HK).gd rfl (by omega) rfl (by omega) (by omega)).mono ?_; rw [unhide HW1]; rintro e w' ⟨rfl, hw⟩; replace hw := hw.symm; subst hw)
    | (go_at_call 139; refine (choose_any (unhide HK) v.hc (by omega) _ L rfl (by omega)).mono ?_; rw [unhide HWW, unhide HAA]; rintro e w1 ⟨rfl, hk1, hb1⟩; replace hk1 := hide hk1; replace hb1 := hide hb1; have c1 := (unhide hk1).gd.gram)
    | (go_at_call 167; refine (alternative_way v.ten hs _ _ x W b _ (unhide hk1).gd rfl hx rfl (unhide H10) (unhide HWK)).mono ?_; rw [unhide HG]; rintro e w' ⟨rfl, hw⟩; replace hw := hw.symm; subst hw)
    | (go_at_call 95; refine (write_any (unhide hk1) (by omega) _).mono ?_; rintro e w2 ⟨rfl, hk2, hb2⟩; replace hk2 := hide hk2; replace hb2 := hide hb2; have c2 := (unhide hk2).gd.gram)
    | (go_at_call 163; refine (alternative_any s _ _ x G _ hs rfl rfl (by omega) (by omega)).mono ?_; rw [unhide HAP]; rintro e w' ⟨rfl, hw⟩; replace hw := hw.symm; subst hw))
  go_loopw [9] (fun fv wr => ∃ (k a1 : Nat) (T1 : List Int) (p1 : Nat × List Int), fv = .int .i64 k ∧ x ≤ k ∧ k ≤ 302 ∧ Hid (Mk wr b s c m P a1 T1) ∧ Hid (Below b w wr) ∧ Hid (Ends T p1 a1 T1) ∧ Hid (R = ((facsG (genF s c m (genE s c m n) l) (fe s k).1 p1.1).1, p1.2 ++ (facsG (genF s c m (genE s c m n) l) (fe s k).1 p1.1).2)) ∧ Hid (∀ f ∈ (fe s k).1, facFit s (nFit s l) (expFit s (nFit s l)) f = true) ∧ a1 ≤ T1.length ∧ T1.length ≤ 2004 + n) (fun fv _ => s.size - (intOf fv).toNat)
  case atStart => exact ⟨y, A, T ++ [48 + (G : Int)], (A, [48 + (G : Int)]), by go_num, by omega, by omega, hk2, hide ((unhide hb1).trans (unhide hb2)), hide (Ends.put T [48 + (G : Int)] A), hide (unhide HR).symm, HG2, by simp; omega, by simp; omega⟩
  case round =>
    obtain ⟨k, a1, T1, p1, rfl, hxk, hk302, hM, hB, hEn, hRe, hFi, ha1, hT1⟩ := hrel
    have c3 := (unhide hM).gd.gram
    by_cases hbig : 2000 < T1.length
    · have hbig' : Hid (decide (2000 < T1.length) = true) := hide (by simp [hbig])
      have HE : Hid (Ends T R a1 T1) := hide (by rw [unhide hRe]; exact (unhide hEn).cut hbig _ _)
      go_wp2_with (go_at_call 54; refine (isBig_any (unhide hM) (by omega)).mono ?_; rw [unhide hbig']; rintro e w' ⟨rfl, hw⟩; replace hw := hw.symm; subst hw)
      go_end0
      exact ⟨rfl, a1, T1, unhide hM, unhide hB, unhide HE, ha1, by omega⟩
    · have hbig' : Hid (decide (2000 < T1.length) = false) := hide (by simp [hbig])
      cases h1 : isF s k
      · have HE : Hid (Ends T R a1 T1) := hide (by
          have h := unhide hRe
          rw [fe_no h1] at h
          have e : R = p1 := by rw [h]; simp [facsG]
          rw [e]; exact unhide hEn)
        have h1' := hide h1; clear h1
        go_wp2_with (first
          | (go_at_call 54; refine (isBig_any (unhide hM) (by omega)).mono ?_; rw [unhide hbig']; rintro e w' ⟨rfl, hw⟩; replace hw := hw.symm; subst hw)
          | (go_at_call 168; refine (isFactor_any _ _ k _ hs rfl).mono ?_; rw [unhide h1']; rintro e w' ⟨rfl, hw⟩; replace hw := hw.symm; subst hw))
        go_end0
        exact ⟨rfl, a1, T1, unhide hM, unhide hB, unhide HE, ha1, by omega⟩
      · have hbb := bh_bd h1
        have hkl := isF_lt h1
        have hff : Hid (facFit s (nFit s l) (expFit s (nFit s l)) k = true) := hide (unhide hFi k (by rw [fe_yes h1]; simp))
        have hFi' : Hid (∀ f ∈ (fe s (bh s k)).1, facFit s (nFit s l) (expFit s (nFit s l)) f = true) := hide (fun f hf => unhide hFi f (by rw [fe_yes h1]; simp [hf]))
        have hRe' : Hid (R = ((facsG (genF s c m (genE s c m n) l) (fe s (bh s k)).1 (genF s c m (genE s c m n) l k p1.1).1).1, (p1.2 ++ (genF s c m (genE s c m n) l k p1.1).2) ++ (facsG (genF s c m (genE s c m n) l) (fe s (bh s k)).1 (genF s c m (genE s c m n) l k p1.1).1).2)) := hide (by
          rw [unhide hRe, fe_yes h1]; simp [facsG])
        have h1' := hide h1; clear h1
        go_wp2_with (first
          | (go_at_call 54; refine (isBig_any (unhide hM) (by omega)).mono ?_; rw [unhide hbig']; rintro e w' ⟨rfl, hw⟩; replace hw := hw.symm; subst hw)
          | (go_at_call 168; refine (isFactor_any _ _ k _ hs rfl).mono ?_; rw [unhide h1']; rintro e w' ⟨rfl, hw⟩; replace hw := hw.symm; subst hw)
          | (go_at_call 53; refine (makeFactor_any v hn hE _ _ x k l a1 _ _ (unhide hM) rfl rfl hl9 (unhide h1') (unhide hff) hxk hd (by omega) ha1).mono ?_; rintro e w4 ⟨rfl, a4, T4, hk4, hb4, he4, ha4, hT4⟩; replace hk4 := hide hk4; replace hb4 := hide hb4; replace he4 := hide he4; have c4 := (unhide hk4).gd.gram)
          | (go_at_call 169; refine (behind_any _ _ k _ hs rfl (by omega)).mono ?_; rintro e w' ⟨rfl, hw⟩; replace hw := hw.symm; subst hw))
        go_roundw
        case rel => exact ⟨bh s k, a4, T4, _, rfl, by omega, by omega, hk4, hide ((unhide hB).trans (unhide hb4)), hide ((unhide hEn).seq (q := genF s c m (genE s c m n) l k) (unhide he4)), hRe', hFi', ha4, hT4⟩
        case measure => simp [intOf]; omega
theorem makeExpression_all (v : Ev s c m P) : ∀ n, n ≤ 5000 → SaidM b s c m P n
  | 0, _ => fun _ _ _ _ _ _ _ _ _ _ _ _ _ _ hd _ _ => by omega
  | n + 1, hn => makeExpression_any v (by omega) (makeExpression_all v n (by omega))
end
end Go.Proofs.YtnfaiaoipeholaaGreatDoor

namespace Go.Proofs.YtnfaiaoipeholaaGreatDoor
/-- digits alone, from a place on -/
def dgF (c : ByteArray) : Nat → Nat → Bool
  | 0, _ => true
  | n + 1, i => cD (bt c i) && dgF c n (i + 1)
def digs (c : ByteArray) : Bool := dgF c c.size 0
/-- depth enough -/
def full (s : ByteArray) : Nat := dep s 9 0
/-- what is made of the start -/
def made (s c : ByteArray) (h m : Nat) : Nat × List Int := genF s c m (genE s c m (full s)) h 0 0
/-- P5 behind P3 -/
def mkR (s c : ByteArray) (h m : Int) : ByteArray × Int :=
  if 2000 < c.size ∨ digs c = false then (⟨#[]⟩, 8)
  else if ¬ (1 ≤ h ∧ h ≤ 9 ∧ 1 ≤ m ∧ m ≤ 5) then (⟨#[]⟩, 9)
  else if nFit s h.toNat (bt s (0 : Nat) - 65).toNat = false then (⟨#[]⟩, 10)
  else if 2000 < (made s c h.toNat m.toNat).2.length then (⟨#[]⟩, 11)
  else (strOfNums (made s c h.toNat m.toNat).2, 0)
/-- P5 -/
def mk (s c : ByteArray) (h m : Int) : ByteArray × Int := if (chk s).1 ≠ 0 then (⟨#[]⟩, (chk s).1) else mkR s c h m
theorem full_le {s : ByteArray} (hs : s.size ≤ 300) : full s ≤ 4000 := by unfold full dep; omega
theorem full_dep {s : ByteArray} {l : Nat} (h : l ≤ 9) : dep s l 0 < full s + 1 := by
  unfold full dep
  have := Nat.mul_le_mul_right (s.size + 2) h
  omega
end Go.Proofs.YtnfaiaoipeholaaGreatDoor

namespace Go.Proofs.YtnfaiaoipeholaaGreatDoor
open Go.RowKit

theorem ret_two' {a b : ByteArray} {c d : Int} (h : a = b) (g : c = d) : Ending.returned (.tuple #[.string a, .int .i64 c]) = .returned (.tuple #[.string b, .int .i64 d]) := by rw [h, g]

set_option maxHeartbeats 400000 in
theorem areChoices_any (c : ByteArray) (w : World) (hc : c.size ≤ maxLen) : Calls Tryz.prog 49 #[.string c] w fun e w' => e = .returned (.bool (decide (¬ (2000 < c.size)) && digs c)) ∧ w' = w := by
  have hc' := hc
  unfold maxLen at hc'
  by_cases h : 2000 < c.size
  · have e : (decide (¬ (2000 < c.size)) && digs c) = false := by simp [h]
    rw [e]; clear e
    go_enter Tryz.func49, Tryz.ntmps49
    go_wp2
    go_ret; exact ⟨rfl, rfl⟩
  · have e : (decide (¬ (2000 < c.size)) && digs c) = digs c := by simp [h]
    rw [e]; clear e
    generalize hR : digs c = R
    unfold digs at hR
    have HR := hide hR; clear hR
    go_enter Tryz.func49, Tryz.ntmps49
    go_wp2
    go_loop [3] (fun i => ∃ (k : Nat), k ≤ c.size ∧ i = .int .i64 k ∧ Hid (R = dgF c (c.size - k) k)) (fun i => c.size - (intOf i).toNat)
    case atStart => exact ⟨0, Nat.zero_le _, rfl, hide (unhide HR).symm⟩
    case round =>
      obtain ⟨k, hk, rfl, hr⟩ := hrel
      by_cases hlt : k < c.size
      · have hb := bt_at c k hlt
        have hst : Hid (R = (cD (bt c k) && dgF c (c.size - (k + 1)) (k + 1))) := hide (by rw [unhide hr, show c.size - k = c.size - (k + 1) + 1 by omega]; rfl)
        cases hd : cD (bt c k)
        · have HF : Hid (R = false) := hide (by rw [unhide hst, hd]; rfl)
          rw [hb] at hd
          have HD := hide hd
          clear hr hst hd
          go_wp2_with (go_at_call 90; refine (isDigit_any _ _).mono ?_; rw [unhide HD]; rintro e w' ⟨rfl, rfl⟩)
          go_ret
          exact ⟨ret_bool (unhide HF).symm, rfl⟩
        · have HF : Hid (R = dgF c (c.size - (k + 1)) (k + 1)) := hide (by rw [unhide hst, hd]; rfl)
          rw [hb] at hd
          have HD := hide hd
          clear hr hst hd
          go_wp2_with (go_at_call 90; refine (isDigit_any _ _).mono ?_; rw [unhide HD]; rintro e w' ⟨rfl, rfl⟩)
          go_round
          case rel => exact ⟨k + 1, by omega, by go_num, HF⟩
          case measure => simp [intOf]; omega
      · have HF : Hid (R = true) := hide (by rw [unhide hr, show c.size - k = 0 by omega]; rfl)
        clear hr
        go_wp2
        go_ret
        exact ⟨ret_bool (unhide HF).symm, rfl⟩

set_option maxHeartbeats 400000 in
theorem areLimits_any (h m : Int) (w : World) : Calls Tryz.prog 50 #[.int .i64 h, .int .i64 m] w fun e w' => e = .returned (.bool (decide (1 ≤ h ∧ h ≤ 9 ∧ 1 ≤ m ∧ m ≤ 5))) ∧ w' = w := by
  go_enter Tryz.func50, Tryz.ntmps50
  go_wp2
  all_goals (go_ret; exact ⟨ret_bool (by rw [Bool.eq_iff_iff]; simp; omega), rfl⟩)

/-- a maker as a value -/
def mks (s c : ByteArray) (m : Int) (P : Nat → Int) : List Value := gds s m P ++ [.string c, .int .i64 0, .slice none 0 0]
theorem mks_len (s c : ByteArray) (m : Int) (P : Nat → Int) : (mks s c m P).length = 31 := by simp [mks, gds_len]
theorem mks_one (s c : ByteArray) (m : Int) (P : Nat → Int) : ∀ v ∈ mks s c m P, v.oneCell' = true := by
  intro v hv
  simp only [mks, List.mem_append, List.mem_cons, List.not_mem_nil, or_false] at hv
  rcases hv with hv | rfl | rfl | rfl
  · exact gds_one s m P v hv
  · rfl
  · rfl
  · rfl
theorem Tryz.infoMaker : (Tryz.prog.info? 85).map (·.size) = some 31 := by kernel_rfl
theorem Tryz.builtMaker (s c : ByteArray) (m : Int) (P : Nat → Int) : Tryz.prog.built 85 [(0, .agg (gds s m P).toArray), (1, .string c)] = some (mks s c m P).toArray := by kernel_rfl
theorem Mk.start (w : World) (s c : ByteArray) (m : Int) (P : Nat → Int) (t : TypeId) (C : Array Value) (hC : 31 ≤ C.size) :
    (w.alloc (.cells C t)).there w.heap.size 0 31 ∧ Mk ((w.alloc (.cells C t)).setCells w.heap.size 0 (mks s c m P)) w.heap.size s c m P 0 [] ∧ Below w.heap.size w ((w.alloc (.cells C t)).setCells w.heap.size 0 (mks s c m P)) := by
  have h0 := there_alloc w C t 31 hC
  have hb : Below w.heap.size w ((w.alloc (.cells C t)).setCells w.heap.size 0 (mks s c m P)) := below_setRow _ (Nat.le_refl _) _ _ ((Below.refl _ _).alloc (Nat.le_refl _) _)
  have hr : ((w.alloc (.cells C t)).setCells w.heap.size 0 (mks s c m P)).rangeAt w.heap.size 0 (mks s c m P) := World.rangeAt_setCells_same _ _ _ _ (by rw [mks_len]; exact h0)
  have hf : ∀ j, j < 31 → ((w.alloc (.cells C t)).setCells w.heap.size 0 (mks s c m P)).frozen? ⟨w.heap.size, j, none⟩ = false := fun j hj => by
    rw [World.frozen?_setCells]
    have := (h0 j hj).2
    rwa [Nat.zero_add] at this
  generalize hW : (w.alloc (.cells C t)).setCells w.heap.size 0 (mks s c m P) = W at *
  have hat : ∀ j v, [Value.string c, .int .i64 0, .slice none 0 0][j]? = some v → W.cell? ⟨w.heap.size, 28 + j, none⟩ = some v := fun j v hv => by
    have := hr (28 + j) v (by rw [mks, List.getElem?_append_right (by rw [gds_len]; omega), gds_len, Nat.add_sub_cancel_left]; exact hv)
    rwa [Nat.zero_add] at this
  refine ⟨h0, ⟨Gd.of_range (fun j v hv => hr j v ?_), ?_, hat 0 _ rfl, hat 1 _ rfl, hf 29 (by omega), ⟨_, hat 2 _ rfl, World.ownsRow_nil W _ _ _⟩, hf 30 (by omega)⟩, hb⟩
  · rw [mks, List.getElem?_append_left (List.getElem?_eq_some_iff.1 hv).1]; exact hv
  · have := hb.size
    obtain ⟨hs, _⟩ := List.getElem?_eq_some_iff.1 (show (mks s c m P)[0]? = some (.string s) from rfl)
    exact World.block_lt_of_cell? W ⟨w.heap.size, 0 + 0, none⟩ (hr 0 _ rfl)

theorem ev_of {s c : ByteArray} (g : Gram s) (ten : Ten s) (hc : c.size ≤ maxLen) {m : Nat} (hm : 1 ≤ m ∧ m ≤ 5) : Ev s c m (pw s 9) := by
  refine ⟨g, ten, hc, hm, fun l i hl hi => ?_⟩
  have hO : ∀ j, Occ s j → rl s (65 + j : Nat) ≠ -1 := fun j hj => by
    obtain ⟨f, hf, hi⟩ := hj
    have hv : 65 ≤ bt s f ∧ bt s f ≤ 90 := by simpa [cN] using hf
    obtain ⟨k, h1, _⟩ := g.name f hf
    rw [show ((65 + j : Nat) : Int) = bt s f by omega, h1]; omega
  rw [Bool.eq_iff_iff, ← pw_fit hO 9 (by omega) i l hi hl]
  simp [nmP]

/-- a row of bytes as a text -/
theorem conv_tree {w : World} {b : Nat} {s c : ByteArray} {m : Int} {P : Nat → Int} {a : Nat} {T : List Int} (hk : Mk w b s c m P a T) (h0 : 0 < T.length) :
    ∃ g cap, w.cell? ⟨b, 30, none⟩ = some (.slice (some ⟨g, 0, none⟩) T.length cap) ∧ (convert 83 9 (.slice (some ⟨g, 0, none⟩) T.length cap)).run Tryz.prog w = .ok (.string (strOfNums T)) w := by
  obtain ⟨v, h1, h2⟩ := hk.tre
  rcases h2.2 with ⟨_, e⟩ | ⟨g, cap, cur, e, _⟩
  · omega
  · subst e
    refine ⟨g, cap, h1, run_convert_bytes_arg _ 83 5 Tryz.underlying83 Tryz.underlying5 g 0 T.length cap T rfl (fun i hi => ?_) _ Tryz.underlying9⟩
    rw [Nat.zero_add, h2.cellAt i (by omega)]
    unfold byts
    rw [List.getElem?_map, List.getElem?_eq_getElem hi, List.getD_eq_getElem?_getD, List.getElem?_eq_getElem hi]; rfl

set_option maxHeartbeats 1000000 in
set_option maxRecDepth 1000000 in
theorem pMake_ok {s c : ByteArray} (g : Gram s) (ten : Ten s) (h m : Nat) (w : World) (hc : c.size ≤ maxLen) (h1 : ¬ 2000 < c.size) (h2 : digs c = true) (hh : 1 ≤ h ∧ h ≤ 9) (hm : 1 ≤ m ∧ m ≤ 5) :
    Calls Tryz.prog 23 #[.string s, .string c, .int .i64 h, .int .i64 m] w fun e w' => e = .returned (.tuple #[.string (mkR s c h m).1, .int .i64 (mkR s c h m).2]) ∧ Below w.heap.size w w' := by
  have v := ev_of (c := c) g ten hc hm
  have hA : Hid ((decide (¬ (2000 < c.size)) && digs c) = true) := hide (by simp [h1, h2])
  have hL : Hid (decide (1 ≤ (h : Int) ∧ (h : Int) ≤ 9 ∧ 1 ≤ (m : Int) ∧ (m : Int) ≤ 5) = true) := hide (by simp; omega)
  have hN := gram_start g
  have hs := g.small
  have hF : isF s 0 = true := by unfold isF; rw [hN]; simp
  have hff : facFit s (nFit s h) (expFit s (nFit s h)) 0 = nFit s h (bt s (0 : Nat) - 65).toNat := by unfold facFit; rw [if_pos hN]
  have hff1 : facFit s (nmP (pw s 9) (h : Nat)) (expFit s (nmP (pw s 9) (h : Nat))) 0 = nFit s h (bt s (0 : Nat) - 65).toNat := by
    unfold facFit; rw [if_pos hN]; exact v.fit h _ hh.2 ⟨0, hN, rfl⟩
  have hX : SaidG s m (pw s 9) (h : Nat) (s.size + 1) := expressionFits_all ten hs _
  have hE : ∀ b, SaidM b s c m (pw s 9) (full s) := fun b => makeExpression_all v (full s) (by have := full_le hs; omega)
  have hfu := full_le hs
  have hmk : mkR s c h m = if nFit s h (bt s (0 : Nat) - 65).toNat = false then (⟨#[]⟩, 10) else if 2000 < (made s c h m).2.length then (⟨#[]⟩, 11) else (strOfNums (made s c h m).2, 0) := by
    unfold mkR
    rw [if_neg (by simp [h1, h2]), if_neg (by omega)]
    simp only [Int.toNat_natCast]
  have hpos : 0 < (made s c h m).2.length := by unfold made genF; rw [if_pos hN]; simp
  generalize mkR s c h m = R at *
  have HMK := hide hmk
  obtain ⟨hh1, hh2⟩ := hh
  have HV := hide v
  have HX := hide hX
  have HE := hide hE
  have HF := hide hF
  have HFF := hide hff
  have HFF1 := hide hff1
  have HG := hide g
  have HT := hide ten
  clear hmk v hX hE hF hff hff1
  go_enter Tryz.func23, Tryz.ntmps23
  go_wp2_with (first
    | (go_at_call 49; refine (areChoices_any _ _ hc).mono ?_; rw [unhide hA]; rintro e w' ⟨rfl, hw⟩; replace hw := hw.symm; subst hw)
    | (go_at_call 50; refine (areLimits_any _ _ _).mono ?_; rw [unhide hL]; rintro e w' ⟨rfl, hw⟩; replace hw := hw.symm; subst hw))
  refine (newGuide_any (unhide HG) (unhide HT) _ _).mono ?_
  generalize pw s 9 = P at *
  rintro e w1 ⟨rfl, hb1⟩
  obtain ⟨t1, k1, b1⟩ := Mk.start w1 s c m P 85 #[.string ⟨#[]⟩, .int .i64 0, .int .i64 0, .int .i64 0, .int .i64 0, .int .i64 0, .int .i64 0, .int .i64 0, .int .i64 0, .int .i64 0, .int .i64 0, .int .i64 0, .int .i64 0, .int .i64 0, .int .i64 0, .int .i64 0, .int .i64 0, .int .i64 0, .int .i64 0, .int .i64 0, .int .i64 0, .int .i64 0, .int .i64 0, .int .i64 0, .int .i64 0, .int .i64 0, .int .i64 0, .int .i64 0, .string ⟨#[]⟩, .int .i64 0, .slice none 0 0] (by decide)
  obtain ⟨MV, hMV⟩ : ∃ MV, MV = (mks s c m P).toArray := ⟨_, rfl⟩
  have hML : MV.toList = mks s c m P := by rw [hMV]
  have hMs : MV.size = 31 := by rw [hMV]; simp [mks_len]
  rw [← hML] at k1 b1
  rw [← hMs] at t1
  have T1 := hide t1
  have K1 := hide k1
  have B1 := hide b1
  have hin : Hid ((Tryz.prog.info? 85).map (·.size) = some MV.size) := hide (by rw [hMs]; exact Tryz.infoMaker)
  have hone : Hid (MV.all (·.oneCell') = true) := hide (by rw [hMV]; exact all_oneCell_toArray (mks_one _ _ _ _))
  generalize hGV : (gds s m P).toArray = GV
  have HBU : Hid (Tryz.prog.built 85 [(0, .agg GV), (1, .string c)] = some MV) := hide (by rw [← hGV, hMV]; exact Tryz.builtMaker s c m P)
  clear t1 k1 b1 hML hMs hGV hMV
  go_wp2_with (first
    | (refine wpList_buildTo rfl 85 _ rfl _ rfl MV (by rw [Array.toList_map]; exact unhide HBU) ?_)
    | (refine wpList_store_mid rfl 85 _ _ rfl w1.heap.size 0 MV rfl rfl (unhide T1) (unhide hin) (unhide hone) ?_))
  generalize hw2 : World.setCells _ w1.heap.size 0 MV.toList = w2 at *
  clear hw2 T1
  cases hfit : nFit s h (bt s (0 : Nat) - 65).toNat
  · have HR : Hid (R = (⟨#[]⟩, 10)) := hide (by rw [unhide HMK, if_pos hfit])
    have HFI := hide hfit
    clear hfit HMK
    go_wp2_with (go_at_call 52; refine (factorFits_any (unhide HT) hs (unhide HX) _ 0 _ _ (unhide K1).gd rfl (unhide HF) (by omega)).mono ?_; rw [unhide HFF1, unhide HFI]; rintro e w' ⟨rfl, hw⟩; replace hw := hw.symm; subst hw)
    go_ret2
    exact ⟨ret_two' (by rw [unhide HR]) (by rw [unhide HR]), hb1.trans ((unhide B1).mono hb1.size)⟩
  · have HR : Hid (R = if 2000 < (made s c h m).2.length then (⟨#[]⟩, 11) else (strOfNums (made s c h m).2, 0)) := hide (by rw [unhide HMK, if_neg (by rw [hfit]; decide)])
    have HFI := hide hfit
    clear hfit HMK
    go_wp2_with (first
      | (go_at_call 52; refine (factorFits_any (unhide HT) hs (unhide HX) _ 0 _ _ (unhide K1).gd rfl (unhide HF) (by omega)).mono ?_; rw [unhide HFF1, unhide HFI]; rintro e w' ⟨rfl, hw⟩; replace hw := hw.symm; subst hw)
      | fail)
    refine (makeFactor_any (unhide HV) (by omega) (unhide HE _) _ _ 0 0 h 0 [] _ (unhide K1) rfl rfl hh2 (unhide HF) (by rw [unhide HFF]; exact unhide HFI) (Nat.le_refl _) (full_dep hh2) (by simp) (by simp)).mono ?_
    rintro e w3 ⟨rfl, a3, T3, hk3, hb3, he3, ha3, hT3⟩
    have hbel : Below w.heap.size w w3 := (hb1.trans ((unhide B1).mono hb1.size)).trans (hb3.mono hb1.size)
    have he : Ends [] (made s c h m) a3 T3 := he3
    obtain ⟨_, he1, he2⟩ := he
    simp only [List.length_nil, Nat.zero_add, List.nil_append] at he1 he2
    by_cases hbig : 2000 < (made s c h m).2.length
    · have hTb := he2 hbig
      have hbig' : Hid (decide (2000 < T3.length) = true) := hide (by simp [hTb])
      have HR2 : Hid (R = (⟨#[]⟩, 11)) := hide (by rw [unhide HR, if_pos hbig])
      have HK3 := hide hk3
      have HB := hide hbel
      clear he1 he2 he3 hk3 hb3 hbel HR
      go_wp2_with (go_at_call 54; refine (isBig_any (unhide HK3) (by omega)).mono ?_; rw [unhide hbig']; rintro e w' ⟨rfl, hw⟩; replace hw := hw.symm; subst hw)
      go_ret2
      exact ⟨ret_two' (by rw [unhide HR2]) (by rw [unhide HR2]), unhide HB⟩
    · obtain ⟨_, hTe⟩ := he1 (by omega)
      have hT0 : 0 < T3.length := by rw [hTe]; exact hpos
      have hbig' : Hid (decide (2000 < T3.length) = false) := hide (by rw [hTe]; simp [hbig])
      have HR2 : Hid (R = (strOfNums T3, 0)) := hide (by rw [unhide HR, if_neg hbig, hTe])
      obtain ⟨gg, cap, ht, hcv⟩ := conv_tree hk3 hT0
      have HK3 := hide hk3
      have HB := hide hbel
      clear he1 he2 he3 hk3 hb3 hbel HR hTe
      go_wp2_with (go_at_call 54; refine (isBig_any (unhide HK3) (by omega)).mono ?_; rw [unhide hbig']; rintro e w' ⟨rfl, hw⟩; replace hw := hw.symm; subst hw)
      go_ret2
      exact ⟨ret_two' (by rw [unhide HR2]) (by rw [unhide HR2]), unhide HB⟩
end Go.Proofs.YtnfaiaoipeholaaGreatDoor
