/- The program's maker: the walks, by one induction. -/
import Derived.Test.YtnfaiaoipeholaaPMake
namespace Go.Proofs.Ytnfaiaoipeholaa
open Go.RowKit

/-- what stands beside a maker -/
structure Ev (s c : ByteArray) (m : Nat) (P : Nat → Int) : Prop where
  gram : Gram s
  ten : Ten s
  hc : c.size ≤ maxLen
  hm : 1 ≤ m ∧ m ≤ 5
  fit : ∀ l i, l ≤ 9 → Occ s i → nmP P (l : Nat) i = nFit s l i
/-- what a making leaves -/
def OutM (b : Nat) (s c : ByteArray) (m : Nat) (P : Nat → Int) (w : World) (T : List Int) (p : Nat × List Int) (B : Nat) (e : Ending) (w' : World) : Prop :=
  e = .returned (.tuple #[]) ∧ ∃ a' T', Mk w' b s c m P a' T' ∧ Below b w w' ∧ Ends T p a' T' ∧ a' ≤ T'.length ∧ T'.length ≤ B
/-- expressions, to this depth -/
def SaidM (b : Nat) (s c : ByteArray) (m : Nat) (P : Nat → Int) (n : Nat) : Prop :=
  ∀ (q lq : Int) (x l a : Nat) (T : List Int) (w : World), Mk w b s c m P a T → q = x → lq = l → x ≤ s.size → l ≤ 9 → (sts s x).length ≤ 10 → expFit s (nFit s l) x = true → dep s l x < n → T.length ≤ 2002 → a ≤ T.length →
    Calls Try.prog 97 #[.pointer (some ⟨b, 0, none⟩), .int .i64 q, .int .i64 lq] w fun e w' => OutM b s c m P w T (genE s c m n l x a) (2003 + n) e w'

section
variable {b : Nat} {s c : ByteArray} {m : Nat} {P : Nat → Int}

theorem nFit_pos {l i : Nat} (h : nFit s l i = true) : 0 < l := by
  cases l with
  | zero => cases h
  | succ l => omega
/-- a name's expression -/
theorem name_place (g : Gram s) (ten : Ten s) {f : Nat} (hf : cN (bt s f) = true) : ∃ j : Nat, rl s (bt s f) = (j : Int) ∧ j < s.size ∧ j + 2 ≤ s.size ∧ (sts s (j + 2)).length ≤ 10 ∧ (rl s (bt s f) + 2).toNat = j + 2 := by
  obtain ⟨j, h1, h2, h3, _⟩ := g.name f hf
  exact ⟨j, h1, h2, (g.rule j h2 h3).2.2.1, ten.rule j h2 h3, by omega⟩
theorem name_fit {l f : Nat} (hf : cN (bt s f) = true) (h : nFit s l (bt s f - 65).toNat = true) : expFit s (nFit s (l - 1)) (rl s (bt s f) + 2).toNat = true := by
  have hv : 65 ≤ bt s f ∧ bt s f ≤ 90 := by simpa [cN] using hf
  cases l with
  | zero => cases h
  | succ l =>
    have e : ((65 + (bt s f - 65).toNat : Nat) : Int) = bt s f := by omega
    have h' : expFit s (nFit s l) (rl s (65 + (bt s f - 65).toNat : Nat) + 2).toNat = true := h
    rw [e] at h'; exact h'

set_option maxHeartbeats 1000000 in
theorem makeName_any (v : Ev s c m P) {n : Nat} (hn : n ≤ 5000) (hE : SaidM b s c m P n) (lq : Int) (f l a : Nat) (T : List Int) (w : World) (hk : Mk w b s c m P a T) (hl : lq = l) (hl9 : l ≤ 9) (hf : cN (bt s f) = true) (hfit : nFit s l (bt s f - 65).toNat = true)
    (hd : ∀ y, dep s (l - 1) y < n) (hT : T.length ≤ 2001) (ha : a ≤ T.length) :
    Calls Try.prog 65 #[.pointer (some ⟨b, 0, none⟩), .int .u8 (bt s f), .int .i64 lq] w fun e w' => OutM b s c m P w T (genN s (genE s c m n) l f a) (2004 + n) e w' := by
  subst hl
  have hs := v.gram.small
  have hpos := nFit_pos hfit
  obtain ⟨j, j1, j2, j3, j4, j5⟩ := name_place v.gram v.ten hf
  have hex := name_fit hf hfit
  rw [j5] at hex
  have c0 := hk.gd.gram
  generalize hR : genN s (genE s c m n) l f a = R
  unfold genN at hR
  rw [j5] at hR
  have HR := hide hR
  have HJ := hide j1
  have HX := hide hex
  have HK := hide hk
  have H4 := hide j4
  have HD := hide (hd (j + 2))
  clear hR hex hk j1 j4 j5 hfit hf hd
  generalize bt s f = nm at *
  go_enter Try.func65, Try.ntmps65
  go_wp2_with (first
    | (go_at_call 53; refine (expression_any s _ j _ hs (unhide HJ) j2).mono ?_; rintro e w' ⟨rfl, hw⟩; replace hw := hw.symm; subst hw)
    | (go_at_call 97; refine (hE _ _ (j + 2) (l - 1) a _ _ (unhide hk1) (by go_num) (by omega) j3 (by omega) (unhide H4) (unhide HX) (unhide HD) (by simp; omega) (by simp; omega)).mono ?_; rintro e w2 ⟨rfl, a2, T2, hk2, hb2, he2, ha2, hT2⟩; replace hk2 := hide hk2; replace hb2 := hide hb2; replace he2 := hide he2)
    | (go_at_call 64; refine (write_any (unhide hk2) (by omega) 41).mono ?_; rintro e w3 ⟨rfl, hk3, hb3⟩; replace hk3 := hide hk3; replace hb3 := hide hb3)
    | (go_at_call 64; refine (write_any (unhide HK) (by omega) 40).mono ?_; rintro e w1 ⟨rfl, hk1, hb1⟩; replace hk1 := hide hk1; replace hb1 := hide hb1))
  go_end0
  refine ⟨rfl, a2, T2 ++ [41], unhide hk3, ((unhide hb1).trans (unhide hb2)).trans (unhide hb3), ?_, by simp; omega, by simp; omega⟩
  have h1 := (Ends.put T [40] a).seq (q := genE s c m n (l - 1) (j + 2)) (unhide he2)
  refine h1.seq' (q := fun a => (a, [41])) (Ends.put T2 [41] a2) ?_
  rw [← unhide HR]; simp

/-- with fewer elements it begins the same -/
theorem elsG_pre (rec : Nat → Nat × List Int) (a : Nat) : ∀ k n, k ≤ n → ∃ r, (elsG rec a n).2 = (elsG rec a k).2 ++ r
  | k, 0, h => ⟨[], by have : k = 0 := by omega
                       subst this; simp⟩
  | k, n + 1, h => by
    by_cases e : k = n + 1
    · subst e; exact ⟨[], by simp⟩
    · obtain ⟨r, hr⟩ := elsG_pre rec a k n (by omega)
      exact ⟨r ++ ((if n = 0 then [] else [44]) ++ (rec (elsG rec a n).1).2), by simp only [elsG]; rw [hr]; simp⟩
theorem cnt_eq (v : Ev s c m P) {l f : Nat} (hl : l ≤ 9) : cntP s (nmP P (l : Nat)) m f = cnt s m l f := by
  unfold cntP cnt
  rw [expFit_congr (fun i hi => v.fit l i hl hi)]
theorem few_fit {l f : Nat} (hO : cO (bt s f) = true) (hf : facFit s (nFit s l) (expFit s (nFit s l)) f = true) (a : Nat) (h : 0 < few (bt s f) + wayN c a (cnt s m l f)) : expFit s (nFit s l) (f + 1) = true := by
  have hN : cN (bt s f) = false := by
    have := cO_vals hO
    simp [cN]; omega
  unfold facFit at hf
  rw [if_neg (by simp [hN])] at hf
  by_cases e : bt s f = 40 ∨ bt s f = 60
  · rw [if_pos e] at hf; exact hf
  · unfold few at h
    rw [if_neg e] at h
    by_cases h2 : expFit s (nFit s l) (f + 1) = true
    · exact h2
    · unfold cnt wayN at h
      rw [if_neg h2] at h
      simp at h
theorem cnt_bd (hm : 1 ≤ m ∧ m ≤ 5) (l f : Nat) : 1 ≤ cnt s m l f ∧ cnt s m l f ≤ 6 := by
  unfold cnt grt few; split <;> (try split) <;> (try split) <;> omega

set_option maxHeartbeats 1000000 in
set_option maxRecDepth 1000000 in
theorem makeBracket_any (v : Ev s c m P) {n : Nat} (hn : n ≤ 5000) (hE : SaidM b s c m P n) (q lq : Int) (f l a : Nat) (T : List Int) (w : World) (hk : Mk w b s c m P a T) (hq : q = f) (hl : lq = l) (hl9 : l ≤ 9) (hf : isF s f = true) (hO : cO (bt s f) = true) (hfit : facFit s (nFit s l) (expFit s (nFit s l)) f = true)
    (hd : dep s l (f + 1) < n) (hT : T.length ≤ 2001) (ha : a + 1 ≤ T.length) :
    Calls Try.prog 66 #[.pointer (some ⟨b, 0, none⟩), .int .i64 q, .int .i64 lq] w fun e w' => OutM b s c m P w T (genB s c m (genE s c m n) l f a) (2004 + n) e w' := by
  subst hq hl
  have hs := v.gram.small
  have hs' : s.size ≤ maxLen := by unfold maxLen; omega
  have hfl := isF_lt hf
  have c0 := hk.gd.gram
  have hce := cnt_eq v (l := l) (f := f) hl9
  have hcb := cnt_bd (s := s) v.hm l f
  obtain ⟨hcb1, hcb2⟩ := hcb
  have hwl := wayN_lt c a (cnt s m l f) (by omega)
  have hwa := wayA_le a (cnt s m l f)
  have hff := few_fit (c := c) (m := m) hO hfit a
  have hfew : few (bt s f) ≤ 1 := by unfold few; split <;> omega
  have ht10 := v.ten.sub f hO
  generalize hR : genB s c m (genE s c m n) l f a = R
  unfold genB at hR
  generalize hcnt : cnt s m l f = C at *
  generalize hway : wayN c a C = W at *
  generalize hA : wayA a C = A at *
  generalize hFw : few (bt s f) = F at *
  have HR := hide hR
  have HCE := hide hce
  have HWAY := hide hway
  have HA := hide hA
  have HFW := hide hFw
  have HFF := hide hff
  have HK := hide hk
  have H10 := hide ht10
  have HD := hide hd
  have HF := hide hf
  have HO := hide hO
  clear hR hce hway hA hFw hff hk ht10 hd hf hO hfit hcnt
  go_enter Try.func66, Try.ntmps66
  go_wp2_with (first
    | (go_at_call 52; refine (at_any _ _ _ hs').mono ?_; rintro e w' ⟨rfl, hw⟩; replace hw := hw.symm; subst hw)
    | (go_at_call 94; refine (counts_any v.ten hs _ f m b _ (unhide HK).gd v.hm rfl (unhide HF) (unhide HO)).mono ?_; rw [unhide HCE]; rintro e w' ⟨rfl, hw⟩; replace hw := hw.symm; subst hw)
    | (go_at_call 98; refine (choose_any (unhide HK) v.hc (by omega) _ C rfl (by omega)).mono ?_; rw [unhide HWAY, unhide HA]; rintro e w1 ⟨rfl, hk1, hb1⟩; replace hk1 := hide hk1; replace hb1 := hide hb1)
    | (go_at_call 62; refine (fewest_any _ _).mono ?_; rw [unhide HFW]; rintro e w' ⟨rfl, hw⟩; replace hw := hw.symm; subst hw))
  go_loopw [10] (fun iv wr => ∃ (k a1 : Nat) (T1 : List Int), iv = .int .i64 k ∧ k ≤ F + W ∧ Hid (Mk wr b s c m P a1 T1) ∧ Hid (Below b w wr) ∧ Hid (Ends T (elsG (genE s c m n l (f + 1)) A k) a1 T1) ∧ a1 ≤ T1.length ∧ T1.length ≤ 2003 + n) (fun iv _ => 30 - (intOf iv).toNat)
  case atStart => exact ⟨0, A, T, by go_num, Nat.zero_le _, hk1, hb1, hide (Ends.nil T A), by omega, by omega⟩
  case round =>
    obtain ⟨k, a1, T1, rfl, hkc, hM, hB, hEn, ha1, hT1⟩ := hrel
    by_cases hlt : k < F + W
    · by_cases hbig : 2000 < T1.length
      · have hbig' : Hid (decide (2000 < T1.length) = true) := hide (by simp [hbig])
        have HE : Hid (Ends T R a1 (T1 ++ [cC (bt s f)])) := hide (by
          obtain ⟨r, hr⟩ := elsG_pre (genE s c m n l (f + 1)) A k (F + W) (by omega)
          have h1 := (unhide hEn).cut hbig (elsG (genE s c m n l (f + 1)) A (F + W)).1 r
          refine h1.seq' (q := fun a => (a, [cC (bt s f)])) (Ends.put T1 [cC (bt s f)] a1) ?_
          rw [← unhide HR, hr])
        clear hEn
        go_wp2_with (first
          | (go_at_call 38; refine (isBig_any (unhide hM) (by omega)).mono ?_; rw [unhide hbig']; rintro e w' ⟨rfl, hw⟩; replace hw := hw.symm; subst hw)
          | (go_at_call 78; refine (closing_any _ _).mono ?_; rintro e w' ⟨rfl, hw⟩; replace hw := hw.symm; subst hw)
          | (go_at_call 64; refine (write_any (unhide hM) (by omega) _).mono ?_; rintro e w3 ⟨rfl, hk3, hb3⟩; replace hk3 := hide hk3; replace hb3 := hide hb3))
        go_end0
        exact ⟨rfl, a1, _, unhide hk3, (unhide hB).trans (unhide hb3), unhide HE, by simp; omega, by simp; omega⟩
      · have hbig' : Hid (decide (2000 < T1.length) = false) := hide (by simp [hbig])
        have hex := hide (unhide HFF (by omega))
        by_cases hk0 : k = 0
        · subst hk0
          go_wp2_with (first
            | (go_at_call 38; refine (isBig_any (unhide hM) (by omega)).mono ?_; rw [unhide hbig']; rintro e w' ⟨rfl, hw⟩; replace hw := hw.symm; subst hw)
            | (go_at_call 97; refine (hE _ _ (f + 1) l a1 _ _ (unhide hM) (by go_num) rfl (by omega) hl9 (unhide H10) (unhide hex) (unhide HD) (by omega) ha1).mono ?_; rintro e w2 ⟨rfl, a2, T2, hk2, hb2, he2, ha2, hT2⟩; replace hk2 := hide hk2; replace hb2 := hide hb2; replace he2 := hide he2))
          go_roundw
          case rel => exact ⟨1, a2, T2, by go_num, by omega, hk2, hide ((unhide hB).trans (unhide hb2)), hide ((unhide hEn).seq (q := fun a => ((genE s c m n l (f + 1) a).1, [] ++ (genE s c m n l (f + 1) a).2)) (by simpa using unhide he2)), ha2, hT2⟩
          case measure => simp [intOf]
        · have hk0' : decide ((k : Int) > 0) = true := by simp; omega
          go_wp2_with (first
            | (go_at_call 38; refine (isBig_any (unhide hM) (by omega)).mono ?_; rw [unhide hbig']; rintro e w' ⟨rfl, hw⟩; replace hw := hw.symm; subst hw)
            | (go_at_call 64; refine (write_any (unhide hM) (by omega) _).mono ?_; rintro e w3 ⟨rfl, hk3, hb3⟩; replace hk3 := hide hk3; replace hb3 := hide hb3)
            | (go_at_call 97; refine (hE _ _ (f + 1) l a1 _ _ (unhide hk3) (by go_num) rfl (by omega) hl9 (unhide H10) (unhide hex) (unhide HD) (by simp; omega) (by simp; omega)).mono ?_; rintro e w2 ⟨rfl, a2, T2, hk2, hb2, he2, ha2, hT2⟩; replace hk2 := hide hk2; replace hb2 := hide hb2; replace he2 := hide he2))
          go_roundw
          case rel =>
            refine ⟨k + 1, a2, T2, by go_num, by omega, hk2, hide (((unhide hB).trans (unhide hb3)).trans (unhide hb2)), hide ?_, ha2, hT2⟩
            have h1 := (Ends.put T1 [44] a1).seq (q := genE s c m n l (f + 1)) (unhide he2)
            refine (unhide hEn).seq' (q := fun a => ((genE s c m n l (f + 1) a).1, [44] ++ (genE s c m n l (f + 1) a).2)) h1 ?_
            simp only [elsG]; rw [if_neg hk0]
          case measure => simp [intOf]; omega
    · have hkc' : k = F + W := by omega
      subst hkc'
      have HE : Hid (Ends T R a1 (T1 ++ [cC (bt s f)])) := hide (by
        refine (unhide hEn).seq' (q := fun a => (a, [cC (bt s f)])) (Ends.put T1 [cC (bt s f)] a1) ?_
        rw [← unhide HR])
      clear hEn
      go_wp2_with (first
        | (go_at_call 78; refine (closing_any _ _).mono ?_; rintro e w' ⟨rfl, hw⟩; replace hw := hw.symm; subst hw)
        | (go_at_call 64; refine (write_any (unhide hM) (by omega) _).mono ?_; rintro e w3 ⟨rfl, hk3, hb3⟩; replace hk3 := hide hk3; replace hb3 := hide hb3))
      go_end0
      exact ⟨rfl, a1, _, unhide hk3, (unhide hB).trans (unhide hb3), unhide HE, by simp; omega, by simp; omega⟩

set_option maxHeartbeats 1000000 in
theorem makeFactor_any (v : Ev s c m P) {n : Nat} (hn : n ≤ 5000) (hE : SaidM b s c m P n) (q lq : Int) (x f l a : Nat) (T : List Int) (w : World) (hk : Mk w b s c m P a T) (hq : q = f) (hl : lq = l) (hl9 : l ≤ 9) (hf : isF s f = true) (hfit : facFit s (nFit s l) (expFit s (nFit s l)) f = true)
    (hx : x ≤ f) (hd : dep s l x < n + 1) (hT : T.length ≤ 2000) (ha : a ≤ T.length) :
    Calls Try.prog 37 #[.pointer (some ⟨b, 0, none⟩), .int .i64 q, .int .i64 lq] w fun e w' => OutM b s c m P w T (genF s c m (genE s c m n) l f a) (2004 + n) e w' := by
  subst hq hl
  have hs := v.gram.small
  have hs' : s.size ≤ maxLen := by unfold maxLen; omega
  have hfl := isF_lt hf
  have c0 := hk.gd.gram
  have hd1 : dep s l (f + 1) < n := by have := dep_sub (s := s) (l := l) hx hfl; omega
  cases h2 : cN (bt s f)
  · cases h3 : cO (bt s f)
    · have hR : genF s c m (genE s c m n) l f a = (a, [bt s f]) := by unfold genF; rw [if_neg (by simp [h2]), if_neg (by simp [h3])]
      rw [hR]
      have h2' := hide h2; have h3' := hide h3; have HK := hide hk
      clear h2 h3 hR hfit hd hd1 hf hk
      go_enter Try.func37, Try.ntmps37
      go_wp2_with (first
        | (go_at_call 52; refine (at_any _ _ _ hs').mono ?_; rintro e w' ⟨rfl, hw⟩; replace hw := hw.symm; subst hw)
        | (go_at_call 51; refine (isName_any _ _).mono ?_; rw [unhide h2']; rintro e w' ⟨rfl, hw⟩; replace hw := hw.symm; subst hw)
        | (go_at_call 55; refine (isOpening_any _ _).mono ?_; rw [unhide h3']; rintro e w' ⟨rfl, hw⟩; replace hw := hw.symm; subst hw)
        | (go_at_call 64; refine (write_any (unhide HK) (by omega) _).mono ?_; rintro e w1 ⟨rfl, hk1, hb1⟩; replace hk1 := hide hk1; replace hb1 := hide hb1))
      go_end0
      exact ⟨rfl, a, _, unhide hk1, unhide hb1, Ends.put T [bt s f] a, by simp; omega, by simp; omega⟩
    · have hR : genF s c m (genE s c m n) l f a = ((genB s c m (genE s c m n) l f a).1, bt s f :: (genB s c m (genE s c m n) l f a).2) := by unfold genF; rw [if_neg (by simp [h2]), if_pos h3]
      rw [hR]
      have h2' := hide h2; have h3' := hide h3; have HK := hide hk; have HF := hide hf; have HFI := hide hfit; have HD := hide hd1
      clear h2 h3 hR hfit hd hd1 hf hk
      go_enter Try.func37, Try.ntmps37
      go_wp2_with (first
        | (go_at_call 52; refine (at_any _ _ _ hs').mono ?_; rintro e w' ⟨rfl, hw⟩; replace hw := hw.symm; subst hw)
        | (go_at_call 51; refine (isName_any _ _).mono ?_; rw [unhide h2']; rintro e w' ⟨rfl, hw⟩; replace hw := hw.symm; subst hw)
        | (go_at_call 55; refine (isOpening_any _ _).mono ?_; rw [unhide h3']; rintro e w' ⟨rfl, hw⟩; replace hw := hw.symm; subst hw)
        | (go_at_call 64; refine (write_any (unhide HK) (by omega) _).mono ?_; rintro e w1 ⟨rfl, hk1, hb1⟩; replace hk1 := hide hk1; replace hb1 := hide hb1)
        | (go_at_call 66; refine (makeBracket_any v hn hE _ _ f l a _ _ (unhide hk1) rfl rfl hl9 (unhide HF) (unhide h3') (unhide HFI) (unhide HD) (by simp; omega) (by simp; omega)).mono ?_; rintro e w2 ⟨rfl, a2, T2, hk2, hb2, he2, ha2, hT2⟩; replace hk2 := hide hk2; replace hb2 := hide hb2; replace he2 := hide he2))
      go_end0
      exact ⟨rfl, a2, T2, unhide hk2, (unhide hb1).trans (unhide hb2), (Ends.put T [bt s f] a).seq (q := genB s c m (genE s c m n) l f) (unhide he2), ha2, hT2⟩
  · have hR : genF s c m (genE s c m n) l f a = ((genN s (genE s c m n) l f a).1, bt s f :: (genN s (genE s c m n) l f a).2) := by unfold genF; rw [if_pos h2]
    have h3 : cO (bt s f) = false := by
      have hv : 65 ≤ bt s f ∧ bt s f ≤ 90 := by simpa [cN] using h2
      cases e : cO (bt s f)
      · rfl
      · have := cO_vals e; omega
    have hfn : nFit s l (bt s f - 65).toNat = true := by unfold facFit at hfit; rw [if_pos h2] at hfit; exact hfit
    have hdn : ∀ y, dep s (l - 1) y < n := fun y => by have := dep_name (s := s) (l := l) (x := x) (y := y) (by omega) (nFit_pos hfn); omega
    rw [hR]
    have h2' := hide h2; have h3' := hide h3; have HK := hide hk; have HFN := hide hfn; have HD := hide hdn
    clear h2 h3 hR hfit hd hd1 hf hk hfn hdn
    go_enter Try.func37, Try.ntmps37
    go_wp2_with (first
      | (go_at_call 52; refine (at_any _ _ _ hs').mono ?_; rintro e w' ⟨rfl, hw⟩; replace hw := hw.symm; subst hw)
      | (go_at_call 51; refine (isName_any _ _).mono ?_; rw [unhide h2']; rintro e w' ⟨rfl, hw⟩; replace hw := hw.symm; subst hw)
      | (go_at_call 55; refine (isOpening_any _ _).mono ?_; rw [unhide h3']; rintro e w' ⟨rfl, hw⟩; replace hw := hw.symm; subst hw)
      | (go_at_call 64; refine (write_any (unhide HK) (by omega) _).mono ?_; rintro e w1 ⟨rfl, hk1, hb1⟩; replace hk1 := hide hk1; replace hb1 := hide hb1)
      | (go_at_call 65; refine (makeName_any v hn hE _ f l a _ _ (unhide hk1) rfl hl9 (unhide h2') (unhide HFN) (unhide HD) (by simp; omega) (by simp; omega)).mono ?_; rintro e w2 ⟨rfl, a2, T2, hk2, hb2, he2, ha2, hT2⟩; replace hk2 := hide hk2; replace hb2 := hide hb2; replace he2 := hide he2))
    go_end0
    exact ⟨rfl, a2, T2, unhide hk2, (unhide hb1).trans (unhide hb2), (Ends.put T [bt s f] a).seq (q := genN s (genE s c m n) l f) (unhide he2), ha2, hT2⟩
end
end Go.Proofs.Ytnfaiaoipeholaa
