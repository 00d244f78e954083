/- The program's guide: what fits, how many ways. The walks, by one induction. -/
import Derived.Test.YtnfaiaoipeholaaPlaces
import Derived.Test.YtnfaiaoipeholaaGenMath
namespace Go.Proofs.Ytnfaiaoipeholaa
open Go.RowKit

/-- a guide in memory -/
structure Gd (w : World) (b : Nat) (s : ByteArray) (m : Int) (P : Nat → Int) : Prop where
  gram : w.cell? ⟨b, 0, none⟩ = some (.string s)
  most : w.cell? ⟨b, 1, none⟩ = some (.int .i64 m)
  low : ∀ i, i < 26 → w.cell? ⟨b, 2 + i, none⟩ = some (.int .i64 (P i))
/-- which names fit -/
def nmP (P : Nat → Int) (left : Int) (i : Nat) : Bool := decide (P i < left)
/-- how many alternatives fit, of the first so many -/
def wayK (s : ByteArray) (N : Nat → Bool) (x k : Nat) : Nat := ((List.range k).filter fun j => altFit s N (expFit s N) (fe s ((sts s x).getD j 0)).1).length
theorem wayK_le (s : ByteArray) (N : Nat → Bool) (x k : Nat) : wayK s N x k ≤ k := by
  have := List.length_filter_le (fun j => altFit s N (expFit s N) (fe s ((sts s x).getD j 0)).1) (List.range k); simpa [wayK] using this
theorem wayK_yes {s : ByteArray} {N : Nat → Bool} {x k a : Nat} (ha : ap s k x = some a) (h : altFit s N (expFit s N) (fe s a).1 = true) : wayK s N x (k + 1) = wayK s N x k + 1 := by
  have e : (sts s x)[k]?.getD 0 = a := by rw [← sts_ap, ha]; rfl
  unfold wayK; rw [List.range_succ, List.filter_append]; simp [List.filter, e, h]
theorem wayK_no {s : ByteArray} {N : Nat → Bool} {x k a : Nat} (ha : ap s k x = some a) (h : altFit s N (expFit s N) (fe s a).1 = false) : wayK s N x (k + 1) = wayK s N x k := by
  have e : (sts s x)[k]?.getD 0 = a := by rw [← sts_ap, ha]; rfl
  unfold wayK; rw [List.range_succ, List.filter_append]; simp [List.filter, e, h]
theorem expFit_way {s : ByteArray} {N : Nat → Bool} {x : Nat} : expFit s N x = decide (0 < wayK s N x (sts s x).length) := by
  rw [Bool.eq_iff_iff, expFit_step, List.any_eq_true, decide_eq_true_eq]
  unfold wayK
  rw [List.length_pos_iff_exists_mem]
  constructor
  · rintro ⟨a, ha, hh⟩
    obtain ⟨k, hk, rfl⟩ := List.getElem_of_mem ha
    refine ⟨k, ?_⟩
    rw [List.mem_filter]
    refine ⟨by simpa using hk, ?_⟩
    rw [List.getD_eq_getElem?_getD, List.getElem?_eq_getElem hk]; exact hh
  · rintro ⟨k, hk⟩
    rw [List.mem_filter] at hk
    obtain ⟨h1, h2⟩ := hk
    have h1' : k < (sts s x).length := by simpa using h1
    rw [List.getD_eq_getElem?_getD, List.getElem?_eq_getElem h1'] at h2
    exact ⟨_, List.getElem_mem h1', h2⟩

section
variable {s : ByteArray} {m : Int} {P : Nat → Int} {left : Int}

def SaidG (s : ByteArray) (m : Int) (P : Nat → Int) (left : Int) (n : Nat) : Prop :=
  ∀ (q : Int) (x b : Nat) (w : World), Gd w b s m P → q = x → x ≤ s.size → s.size < x + n → (sts s x).length ≤ 10 →
    Calls Try.prog 63 #[.pointer (some ⟨b, 0, none⟩), .int .i64 q, .int .i64 left] w fun e w' => e = .returned (.bool (expFit s (nmP P left) x)) ∧ w' = w

set_option maxHeartbeats 400000 in
theorem fewest_any (c : Int) (w : World) : Calls Try.prog 62 #[.int .u8 c] w fun e w' => e = .returned (.int .i64 (few c)) ∧ w' = w := by
  go_enter Try.func62, Try.ntmps62
  go_wp2
  all_goals (go_ret; exact ⟨ret_int (by simp_all [few]), rfl⟩)

set_option maxHeartbeats 1000000 in
theorem factorFits_any (ten : Ten s) (hs : s.size ≤ 300) {n : Nat} (hX : SaidG s m P left n) (q : Int) (f b : Nat) (w : World) (gd : Gd w b s m P) (hq : q = f) (hf : isF s f = true) (hn : s.size < f + 1 + n) :
    Calls Try.prog 36 #[.pointer (some ⟨b, 0, none⟩), .int .i64 q, .int .i64 left] w fun e w' => e = .returned (.bool (facFit s (nmP P left) (expFit s (nmP P left)) f)) ∧ w' = w := by
  subst hq
  have hs' : s.size ≤ maxLen := by unfold maxLen; omega
  have hl := isF_lt hf
  have c0 := gd.gram
  cases h2 : cN (bt s f)
  · cases h3 : cO (bt s f)
    · have hr : facFit s (nmP P left) (expFit s (nmP P left)) f = true := by
        unfold facFit; rw [if_neg (by simp [h2]), if_neg]
        intro h; rcases h with h | h <;> rw [h] at h3 <;> revert h3 <;> decide
      rw [hr]
      have h2' := hide h2; have h3' := hide h3
      clear h2 h3 hr hX
      go_enter Try.func36, Try.ntmps36
      go_wp2_with (first | (go_at_call 52; refine (at_any _ _ _ hs').mono ?_; rintro e w' ⟨rfl, rfl⟩) | (go_at_call 51; refine (isName_any _ _).mono ?_; rintro e w' ⟨rfl, rfl⟩; rw [unhide h2']) | (go_at_call 55; refine (isOpening_any _ _).mono ?_; rintro e w' ⟨rfl, rfl⟩; rw [unhide h3']))
      go_ret; exact ⟨rfl, rfl⟩
    · by_cases h4 : bt s f = 40 ∨ bt s f = 60
      · have hr : facFit s (nmP P left) (expFit s (nmP P left)) f = expFit s (nmP P left) (f + 1) := by
          unfold facFit; rw [if_neg (by simp [h2]), if_pos h4]
        rw [hr]
        have h4' : Hid (few (bt s f) = 1) := hide (by unfold few; rw [if_pos h4])
        have ht := hide (ten.sub f h3)
        have h2' := hide h2; have h3' := hide h3
        clear h2 h3 h4 hr
        go_enter Try.func36, Try.ntmps36
        go_wp2_with (first | (go_at_call 52; refine (at_any _ _ _ hs').mono ?_; rintro e w' ⟨rfl, rfl⟩) | (go_at_call 51; refine (isName_any _ _).mono ?_; rintro e w' ⟨rfl, rfl⟩; rw [unhide h2']) | (go_at_call 55; refine (isOpening_any _ _).mono ?_; rintro e w' ⟨rfl, rfl⟩; rw [unhide h3']) | (go_at_call 62; refine (fewest_any _ _).mono ?_; rintro e w' ⟨rfl, rfl⟩; rw [unhide h4']) | (go_at_call 63; refine (hX _ (f + 1) b _ gd (by go_num) (by omega) (by omega) (unhide ht)).mono ?_; rintro e w' ⟨rfl, rfl⟩))
        go_ret; exact ⟨rfl, rfl⟩
      · have hr : facFit s (nmP P left) (expFit s (nmP P left)) f = true := by
          unfold facFit; rw [if_neg (by simp [h2]), if_neg h4]
        rw [hr]
        have h4' : Hid (few (bt s f) = 0) := hide (by unfold few; rw [if_neg h4])
        have h2' := hide h2; have h3' := hide h3
        clear h2 h3 h4 hr hX
        go_enter Try.func36, Try.ntmps36
        go_wp2_with (first | (go_at_call 52; refine (at_any _ _ _ hs').mono ?_; rintro e w' ⟨rfl, rfl⟩) | (go_at_call 51; refine (isName_any _ _).mono ?_; rintro e w' ⟨rfl, rfl⟩; rw [unhide h2']) | (go_at_call 55; refine (isOpening_any _ _).mono ?_; rintro e w' ⟨rfl, rfl⟩; rw [unhide h3']) | (go_at_call 62; refine (fewest_any _ _).mono ?_; rintro e w' ⟨rfl, rfl⟩; rw [unhide h4']))
        go_ret; exact ⟨rfl, rfl⟩
  · have hv : 65 ≤ bt s f ∧ bt s f ≤ 90 := by simpa [cN] using h2
    obtain ⟨hv1, hv2⟩ := hv
    have hr : facFit s (nmP P left) (expFit s (nmP P left)) f = decide (P (bt s f - 65).toNat < left) := by
      unfold facFit nmP; rw [if_pos h2]
    rw [hr]
    have c1 := gd.low (bt s f - 65).toNat (by omega)
    have hix : bt s f - 65 < 26 := by omega
    have hix0 : 0 ≤ bt s f - 65 := by omega
    have h2' := hide h2
    clear h2 hr hX
    go_enter Try.func36, Try.ntmps36
    go_wp2_with (first | (go_at_call 52; refine (at_any _ _ _ hs').mono ?_; rintro e w' ⟨rfl, rfl⟩) | (go_at_call 51; refine (isName_any _ _).mono ?_; rintro e w' ⟨rfl, rfl⟩; rw [unhide h2']))
    go_ret; exact ⟨rfl, rfl⟩

set_option maxHeartbeats 1000000 in
theorem alternativeFits_any (ten : Ten s) (hs : s.size ≤ 300) {n : Nat} (hX : SaidG s m P left n) (q : Int) (a b : Nat) (w : World) (gd : Gd w b s m P) (hq : q = a) (ha : a ≤ 302) (hn : s.size < a + 1 + n) :
    Calls Try.prog 118 #[.pointer (some ⟨b, 0, none⟩), .int .i64 q, .int .i64 left] w fun e w' => e = .returned (.bool (altFit s (nmP P left) (expFit s (nmP P left)) (fe s a).1)) ∧ w' = w := by
  subst hq
  have c0 := gd.gram
  go_enter Try.func118, Try.ntmps118
  go_wp2
  go_loop [7] (fun i => ∃ (k : Nat), a ≤ k ∧ k ≤ 302 ∧ i = .int .i64 k ∧ Hid (altFit s (nmP P left) (expFit s (nmP P left)) (fe s a).1 = altFit s (nmP P left) (expFit s (nmP P left)) (fe s k).1)) (fun i => s.size - (intOf i).toNat)
  case atStart => exact ⟨a, by omega, ha, rfl, hide rfl⟩
  case round =>
    obtain ⟨k, hak, hk, rfl, hr⟩ := hrel
    cases h1 : isF s k
    · have hR : Hid (altFit s (nmP P left) (expFit s (nmP P left)) (fe s a).1 = true) := hide (by rw [unhide hr, fe_no h1]; rfl)
      have h1' := hide h1; clear h1 hr
      go_wp2_with (go_at_call 115; refine (isFactor_any _ _ k _ hs rfl).mono ?_; rintro e w' ⟨rfl, rfl⟩; rw [unhide h1'])
      go_ret
      exact ⟨ret_bool (by rw [unhide hR]), rfl⟩
    · have hb := bh_bd h1
      have hl := isF_lt h1
      have hF := hide h1
      cases h2 : facFit s (nmP P left) (expFit s (nmP P left)) k
      · have hR : Hid (altFit s (nmP P left) (expFit s (nmP P left)) (fe s a).1 = false) := hide (by rw [unhide hr, fe_yes h1]; simp [altFit, h2])
        have h1' := hide h1; have h2' := hide h2; clear h1 h2 hr
        go_wp2_with (first | (go_at_call 115; refine (isFactor_any _ _ k _ hs rfl).mono ?_; rintro e w' ⟨rfl, rfl⟩; rw [unhide h1']) | (go_at_call 36; refine (factorFits_any ten hs hX _ k b _ gd rfl (unhide hF) (by omega)).mono ?_; rintro e w' ⟨rfl, rfl⟩; rw [unhide h2']))
        go_ret
        exact ⟨ret_bool (by rw [unhide hR]), rfl⟩
      · have hR : Hid (altFit s (nmP P left) (expFit s (nmP P left)) (fe s a).1 = altFit s (nmP P left) (expFit s (nmP P left)) (fe s (bh s k)).1) := hide (by rw [unhide hr, fe_yes h1]; simp [altFit, h2])
        have h1' := hide h1; have h2' := hide h2; clear h1 h2 hr
        go_wp2_with (first | (go_at_call 115; refine (isFactor_any _ _ k _ hs rfl).mono ?_; rintro e w' ⟨rfl, rfl⟩; rw [unhide h1']) | (go_at_call 36; refine (factorFits_any ten hs hX _ k b _ gd rfl (unhide hF) (by omega)).mono ?_; rintro e w' ⟨rfl, rfl⟩; rw [unhide h2']) | (go_at_call 116; refine (behind_any _ _ k _ hs rfl (by omega)).mono ?_; rintro e w' ⟨rfl, rfl⟩))
        go_round
        case rel => exact ⟨bh s k, by omega, by omega, rfl, hide (unhide hR)⟩
        case measure => simp [intOf]; omega

set_option maxHeartbeats 1000000 in
theorem alternatives_any (ten : Ten s) (hs : s.size ≤ 300) {n : Nat} (hX : SaidG s m P left n) (q bq : Int) (x below b : Nat) (w : World) (gd : Gd w b s m P) (hq : q = x) (hx : x ≤ 302) (hbq : bq = below) (hb10 : below ≤ 10) (hn : s.size < x + 1 + n) :
    Calls Try.prog 96 #[.pointer (some ⟨b, 0, none⟩), .int .i64 q, .int .i64 left, .int .i64 bq] w fun e w' => e = .returned (.int .i64 (wayK s (nmP P left) x (min below (sts s x).length))) ∧ w' = w := by
  subst hq hbq
  have c0 := gd.gram
  generalize hL : (sts s x).length = len
  have HL := hide hL; clear hL
  go_enter Try.func96, Try.ntmps96
  go_wp2
  go_loop [9, 10, 11] (fun wv pv i => ∃ (k : Nat) (y : Int) (wy : Nat), k ≤ below ∧ k ≤ len ∧ i = .int .i64 k ∧ pv = .int .i64 y ∧ wv = .int .i64 wy ∧ wy ≤ k ∧ Hid (y = pl (ap s k x)) ∧ Hid (wy = wayK s (nmP P left) x k)) (fun _ _ i => below - (intOf i).toNat)
  case atStart => exact ⟨0, x, 0, by omega, by omega, rfl, rfl, rfl, by omega, hide rfl, hide rfl⟩
  case round =>
    obtain ⟨k, y, wy, hk, hkl, rfl, rfl, rfl, hwy, hr, hw⟩ := hrel
    by_cases hlt : k < below
    · cases ho : ap s k x with
      | none =>
        have hy : y = -1 := by rw [unhide hr, ho]; rfl
        have hlen : k = len := by
          rw [sts_ap] at ho
          have := List.getElem?_eq_none_iff.1 ho
          rw [unhide HL] at this; omega
        have HR : Hid (wy = wayK s (nmP P left) x (min below len)) := hide (by rw [unhide hw]; congr 1; omega)
        subst hy
        clear hr ho hw
        go_wp2
        go_ret
        exact ⟨ret_int (by rw [unhide HR]), rfl⟩
      | some z =>
        have hy : y = z := by rw [unhide hr, ho]; rfl
        have hz := ap_bd ho
        have hlen : k < len := by
          have h' := ho
          rw [sts_ap] at h'
          have := (List.getElem?_eq_some_iff.1 h').1
          rw [unhide HL] at this; exact this
        have hne : ((z : Int) != -1) = true := pl_ne z
        have HA : Hid (pl (nx s z) = pl (ap s (k + 1) x)) := hide (by rw [ap_nx s k x z ho])
        subst hy
        cases h2 : altFit s (nmP P left) (expFit s (nmP P left)) (fe s z).1
        · have HW : Hid (wy = wayK s (nmP P left) x (k + 1)) := hide (by rw [unhide hw, wayK_no ho h2])
          have h2' := hide h2; clear h2 hr ho hw
          go_wp2_with (first | (go_at_call 118; refine (alternativeFits_any ten hs hX _ z b _ gd rfl (by omega) (by omega)).mono ?_; rintro e w' ⟨rfl, rfl⟩; rw [unhide h2']) | (go_at_call 119; refine (next_any _ _ z _ hs rfl (by omega)).mono ?_; rintro e w' ⟨rfl, rfl⟩))
          go_round
          case rel => exact ⟨k + 1, _, wy, by omega, by omega, by go_num, rfl, rfl, by omega, hide (unhide HA), hide (unhide HW)⟩
          case measure => simp [intOf]; omega
        · have HW : Hid (wy + 1 = wayK s (nmP P left) x (k + 1)) := hide (by rw [unhide hw, wayK_yes ho h2])
          have h2' := hide h2; clear h2 hr ho hw
          go_wp2_with (first | (go_at_call 118; refine (alternativeFits_any ten hs hX _ z b _ gd rfl (by omega) (by omega)).mono ?_; rintro e w' ⟨rfl, rfl⟩; rw [unhide h2']) | (go_at_call 119; refine (next_any _ _ z _ hs rfl (by omega)).mono ?_; rintro e w' ⟨rfl, rfl⟩))
          go_round
          case rel => exact ⟨k + 1, _, wy + 1, by omega, by omega, by go_num, rfl, by go_num, by omega, hide (unhide HA), hide (unhide HW)⟩
          case measure => simp [intOf]; omega
    · have HR : Hid (wy = wayK s (nmP P left) x (min below len)) := hide (by rw [unhide hw]; congr 1; omega)
      clear hr hw
      go_wp2
      go_ret
      exact ⟨ret_int (by rw [unhide HR]), rfl⟩

set_option maxHeartbeats 1000000 in
theorem expressionFits_any (ten : Ten s) (hs : s.size ≤ 300) {n : Nat} (hX : SaidG s m P left n) : SaidG s m P left (n + 1) := by
  intro q x b w gd hq hx hn ht
  subst hq
  have e : expFit s (nmP P left) x = decide (0 < wayK s (nmP P left) x (min 10 (sts s x).length)) := by
    rw [expFit_way, Nat.min_eq_right ht]
  rw [e]
  clear e ht
  go_enter Try.func63, Try.ntmps63
  go_wp2_with (go_at_call 96; refine (alternatives_any ten hs hX _ _ x 10 b _ gd rfl (by omega) rfl (by omega) (by omega)).mono ?_; rintro e w' ⟨rfl, rfl⟩)
  go_ret; exact ⟨rfl, rfl⟩
theorem expressionFits_all (ten : Ten s) (hs : s.size ≤ 300) : ∀ n, SaidG s m P left n
  | 0 => fun q x b w gd hq hx hn ht => by omega
  | n + 1 => expressionFits_any ten hs (expressionFits_all ten hs n)

/-- the way's own alternative -/
theorem fit_at {p : Nat → Bool} {k : Nat} (hp : p k = true) : ∀ len, k < len → ((List.range len).filter p)[((List.range k).filter p).length]? = some k
  | 0, h => by omega
  | len + 1, h => by
    rw [List.range_succ, List.filter_append]
    by_cases e : k = len
    · subst e; simp [List.filter, hp]
    · have ih := fit_at hp len (by omega)
      rw [List.getElem?_append_left (List.getElem?_eq_some_iff.1 ih).1]; exact ih
theorem wayK_at {s : ByteArray} {N : Nat → Bool} {x k way : Nat} (h1 : wayK s N x (min k (sts s x).length) ≤ way) (h2 : way < wayK s N x (min (k + 1) (sts s x).length)) :
    ((List.range (sts s x).length).filter fun j => altFit s N (expFit s N) (fe s ((sts s x).getD j 0)).1)[way]? = some k := by
  by_cases hk : k < (sts s x).length
  · rw [Nat.min_eq_left (by omega)] at h1 h2
    obtain ⟨a, ha⟩ : ∃ a, ap s k x = some a := by rw [sts_ap]; exact ⟨_, List.getElem?_eq_getElem hk⟩
    have e : (sts s x)[k]?.getD 0 = a := by rw [← sts_ap, ha]; rfl
    cases h3 : altFit s N (expFit s N) (fe s a).1
    · rw [wayK_no ha h3] at h2; omega
    · rw [wayK_yes ha h3] at h2
      have hw : way = wayK s N x k := by omega
      rw [hw]
      exact fit_at (p := fun j => altFit s N (expFit s N) (fe s ((sts s x).getD j 0)).1) (by simpa [e] using h3) _ hk
  · rw [Nat.min_eq_right (by omega)] at h1 h2; omega

set_option maxHeartbeats 1000000 in
theorem alternative_way (ten : Ten s) (hs : s.size ≤ 300) (q wq : Int) (x way b : Nat) (w : World) (gd : Gd w b s m P) (hq : q = x) (hx : x ≤ s.size) (hwq : wq = way) (ht : (sts s x).length ≤ 10) (hway : way < wayK s (nmP P left) x (sts s x).length) :
    Calls Try.prog 120 #[.pointer (some ⟨b, 0, none⟩), .int .i64 q, .int .i64 left, .int .i64 wq] w fun e w' => e = .returned (.int .i64 (((List.range (sts s x).length).filter fun j => altFit s (nmP P left) (expFit s (nmP P left)) (fe s ((sts s x).getD j 0)).1).getD way 0 : Nat)) ∧ w' = w := by
  subst hq hwq
  have hX : SaidG s m P left (s.size + 1) := expressionFits_all ten hs _
  generalize hR : ((List.range (sts s x).length).filter fun j => altFit s (nmP P left) (expFit s (nmP P left)) (fe s ((sts s x).getD j 0)).1).getD way 0 = R
  have HR := hide hR
  have HT := hide ht
  have HW := hide hway
  clear hR ht hway
  go_enter Try.func120, Try.ntmps120
  go_wp2
  go_loop [9] (fun i => ∃ (k : Nat), k ≤ 10 ∧ i = .int .i64 k ∧ Hid (wayK s (nmP P left) x (min k (sts s x).length) ≤ way)) (fun i => 10 - (intOf i).toNat)
  case atStart => exact ⟨0, by omega, rfl, hide (by simp [wayK])⟩
  case round =>
    obtain ⟨k, hk, rfl, hr⟩ := hrel
    by_cases hlt : k < 10
    · by_cases hgt : way < wayK s (nmP P left) x (min (k + 1) (sts s x).length)
      · have HF : Hid (R = k) := hide (by
          rw [← unhide HR, List.getD_eq_getElem?_getD, wayK_at (unhide hr) hgt]; rfl)
        clear hr
        go_wp2_with (go_at_call 96; refine (alternatives_any ten hs hX _ _ x (k + 1) b _ gd rfl (by omega) (by go_num) (by omega) (by omega)).mono ?_; rintro e w' ⟨rfl, rfl⟩)
        go_ret
        exact ⟨ret_int (by rw [unhide HF]), rfl⟩
      · have HF := hide hgt
        clear hr
        go_wp2_with (go_at_call 96; refine (alternatives_any ten hs hX _ _ x (k + 1) b _ gd rfl (by omega) (by go_num) (by omega) (by omega)).mono ?_; rintro e w' ⟨rfl, rfl⟩)
        go_round
        case rel => exact ⟨k + 1, by omega, by go_num, hide (by have := unhide HF; omega)⟩
        case measure => simp [intOf]; omega
    · exfalso
      have h1 := unhide hr
      have h2 := unhide HT
      have h3 := unhide HW
      rw [Nat.min_eq_right (by omega)] at h1
      omega

set_option maxHeartbeats 400000 in
theorem greatest_any (c : Int) (mm b : Nat) (w : World) (gd : Gd w b s mm P) : Calls Try.prog 117 #[.pointer (some ⟨b, 0, none⟩), .int .u8 c] w fun e w' => e = .returned (.int .i64 (grt mm c)) ∧ w' = w := by
  have c1 := gd.most
  by_cases h40 : c = 40
  · subst h40
    go_enter Try.func117, Try.ntmps117
    go_wp2
    all_goals (go_ret; exact ⟨rfl, rfl⟩)
  · by_cases h91 : c = 91
    · subst h91
      go_enter Try.func117, Try.ntmps117
      go_wp2
      all_goals (go_ret; exact ⟨rfl, rfl⟩)
    · have e : grt mm c = mm := by unfold grt; rw [if_neg (by omega)]
      rw [e]
      have h40' : (c == 40) = false := by simp [h40]
      have h91' : (c == 91) = false := by simp [h91]
      go_enter Try.func117, Try.ntmps117
      go_wp2
      all_goals (go_ret; exact ⟨rfl, rfl⟩)

/-- how many ways a bracket has -/
def cntP (s : ByteArray) (N : Nat → Bool) (m f : Nat) : Nat := if expFit s N (f + 1) = true then grt m (bt s f) - few (bt s f) + 1 else 1
set_option maxHeartbeats 1000000 in
theorem counts_any (ten : Ten s) (hs : s.size ≤ 300) (q : Int) (f mm b : Nat) (w : World) (gd : Gd w b s mm P) (hm : 1 ≤ mm ∧ mm ≤ 5) (hq : q = f) (hf : isF s f = true) (hc : cO (bt s f) = true) :
    Calls Try.prog 94 #[.pointer (some ⟨b, 0, none⟩), .int .i64 q, .int .i64 left] w fun e w' => e = .returned (.int .i64 (cntP s (nmP P left) mm f)) ∧ w' = w := by
  subst hq
  have hX : SaidG s mm P left (s.size + 1) := expressionFits_all ten hs _
  have hs' : s.size ≤ maxLen := by unfold maxLen; omega
  have hl := isF_lt hf
  have c0 := gd.gram
  have ht := hide (ten.sub f hc)
  clear hc hf
  cases h1 : expFit s (nmP P left) (f + 1)
  · have e : cntP s (nmP P left) mm f = 1 := by unfold cntP; rw [if_neg (by simp [h1])]
    rw [e]
    have h1' := hide h1; clear h1 e
    go_enter Try.func94, Try.ntmps94
    go_wp2_with (go_at_call 63; refine (hX _ (f + 1) b _ gd (by go_num) (by omega) (by omega) (unhide ht)).mono ?_; rintro e w' ⟨rfl, rfl⟩; rw [unhide h1'])
    go_ret; exact ⟨rfl, rfl⟩
  · have e : cntP s (nmP P left) mm f = grt mm (bt s f) - few (bt s f) + 1 := by unfold cntP; rw [if_pos h1]
    have hg : few (bt s f) ≤ grt mm (bt s f) ∧ grt mm (bt s f) ≤ 5 ∧ few (bt s f) ≤ 1 := by unfold few grt; split <;> split <;> omega
    obtain ⟨hg1, hg2, hg3⟩ := hg
    rw [e]
    generalize hgG : grt mm (bt s f) = G at *
    generalize hgF : few (bt s f) = F at *
    have HG := hide hgG; have HF := hide hgF
    have h1' := hide h1; clear h1 e hgG hgF
    go_enter Try.func94, Try.ntmps94
    go_wp2_with (first | (go_at_call 63; refine (hX _ (f + 1) b _ gd (by go_num) (by omega) (by omega) (unhide ht)).mono ?_; rintro e w' ⟨rfl, rfl⟩; rw [unhide h1']) | (go_at_call 52; refine (at_any _ _ _ hs').mono ?_; rintro e w' ⟨rfl, rfl⟩) | (go_at_call 117; refine (greatest_any _ mm b _ gd).mono ?_; rintro e w' ⟨rfl, rfl⟩; rw [unhide HG]) | (go_at_call 62; refine (fewest_any _ _).mono ?_; rintro e w' ⟨rfl, rfl⟩; rw [unhide HF]))
    go_ret; exact ⟨ret_int (by omega), rfl⟩
end
end Go.Proofs.Ytnfaiaoipeholaa
