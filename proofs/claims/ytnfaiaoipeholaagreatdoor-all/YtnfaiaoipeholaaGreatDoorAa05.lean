/- PTree PHeight Heap -/
import Derived.Test.YtnfaiaoipeholaaGreatDoorAa04
import Derived.Test.YtnfaiaoipeholaaGreatDoorAa02
import Derived.WalkKit
namespace Go.Proofs.YtnfaiaoipeholaaGreatDoor
open Go.RowKit

/-- an end and a height are answered: as they are told, or -1 and some number -/
def Ret (t : ByteArray) (n : Nat) (r : Option (Nat × Nat)) (e : Ending) : Prop :=
  ∃ j h : Int, e = .returned (.tuple #[.int .i64 j, .int .i64 h]) ∧ 0 ≤ h ∧ h ≤ n ∧ ((r = none ∧ j = -1) ∨ ∃ a b : Nat, r = some (a, b) ∧ j = a ∧ h = b ∧ a ≤ t.size)

/-- the grammar, the tree -/
structure Env (s t : ByteArray) : Prop where
  hs : s.size ≤ 300
  ht : t.size ≤ 2000
  nm : ∀ f : Nat, cN (bt s f) = true → ∃ j : Nat, rl s (bt s f) = (j : Int) ∧ j < s.size

/-- expressions, to this depth -/
def SaidE (s t : ByteArray) (n : Nat) : Prop :=
  ∀ (p q : Int) (x i : Nat) (w : World), p = x → q = i → x ≤ 302 → i ≤ 2010 → t.size < i + n →
    Calls Tryz.prog 134 #[.string s, .int .i64 p, .string t, .int .i64 q] w fun e w' => Ret t n (pE s t 0 n x i) e ∧ w' = w

section
variable {s t : ByteArray}
theorem Env.ms (v : Env s t) : s.size ≤ maxLen := by have := v.hs; unfold maxLen; omega
theorem Env.mt (v : Env s t) : t.size ≤ maxLen := by have := v.ht; unfold maxLen; omega

set_option maxHeartbeats 400000 in
theorem close_no (v : Env s t) (o : Int) (w : World) :
    Calls Tryz.prog 135 #[.string t, .int .i64 o, .int .i64 (-1)] w fun e w' => e = .returned (.int .i64 (-1)) ∧ w' = w := by
  have hm := hide v.mt
  go_enter Tryz.func135, Tryz.ntmps135
  go_wp2_with (first | (go_at_call 87; refine (at_any _ _ _ (unhide hm)).mono ?_; rintro e w' ⟨rfl, rfl⟩) | (go_at_call 113; refine (closing_any _ _).mono ?_; rintro e w' ⟨rfl, rfl⟩))
  go_ret
  exact ⟨rfl, rfl⟩

set_option maxHeartbeats 400000 in
theorem close_at (v : Env s t) (o : Int) (j : Nat) (w : World) (hj : j ≤ t.size) :
    Calls Tryz.prog 135 #[.string t, .int .i64 o, .int .i64 j] w fun e w' => e = .returned (.int .i64 (if bt t j = cC (bt t o) then (j : Int) + 1 else -1)) ∧ w' = w := by
  have hm := hide v.mt
  have ht := v.ht
  have hj1 : ((j : Int) == -1) = false := by simp only [beq_eq_false_iff_ne]; omega
  by_cases hb : bt t j = cC (bt t o)
  · rw [if_pos hb]
    have hb' : (bt t j != cC (bt t o)) = false := by simp [hb]
    clear hb
    go_enter Tryz.func135, Tryz.ntmps135
    go_wp2_with (first | (go_at_call 87; refine (at_any _ _ _ (unhide hm)).mono ?_; rintro e w' ⟨rfl, rfl⟩) | (go_at_call 113; refine (closing_any _ _).mono ?_; rintro e w' ⟨rfl, rfl⟩))
    go_ret
    exact ⟨rfl, rfl⟩
  · rw [if_neg hb]
    have hb' : (bt t j != cC (bt t o)) = true := by simp [hb]
    clear hb
    go_enter Tryz.func135, Tryz.ntmps135
    go_wp2_with (first | (go_at_call 87; refine (at_any _ _ _ (unhide hm)).mono ?_; rintro e w' ⟨rfl, rfl⟩) | (go_at_call 113; refine (closing_any _ _).mono ?_; rintro e w' ⟨rfl, rfl⟩))
    go_ret
    exact ⟨rfl, rfl⟩

/-- one tree of an expression in brackets -/
def pOne (t : ByteArray) (r : Option (Nat × Nat)) (b : Int) : Option (Nat × Nat) := match r with
  | none => none
  | some (j, h) => if bt t j = b then some (j + 1, h) else none

set_option maxHeartbeats 400000 in
theorem bracket_any (v : Env s t) {n : Nat} (hE : SaidE s t n) (p q : Int) (x i : Nat) (w : World) (hp : p = x) (hq : q = i) (hx : x ≤ 302) (hi : i ≤ 2009) (hin : t.size < i + 1 + n) (hc : cC (bt t i) ≠ 0) :
    Calls Tryz.prog 89 #[.string s, .int .i64 p, .string t, .int .i64 q] w fun e w' => Ret t n (pOne t (pE s t 0 n x (i + 1)) (cC (bt t i))) e ∧ w' = w := by
  subst hp hq
  have ht := v.ht
  go_enter Tryz.func89, Tryz.ntmps89
  go_wp2_with fail
  refine (hE _ _ x (i + 1) _ rfl (by omega) hx (by omega) (by omega)).mono ?_
  rintro e w' ⟨⟨j, h, rfl, h0, h1, hr⟩, rfl⟩
  rcases hr with ⟨hr, rfl⟩ | ⟨a, b, hr, rfl, rfl, ha⟩
  · have HR := hide hr; clear hr
    go_wp2_with (go_at_call 135; refine (close_no v _ _).mono ?_; rintro e w' ⟨rfl, rfl⟩)
    go_ret2
    exact ⟨⟨_, _, rfl, h0, h1, .inl ⟨by rw [unhide HR]; rfl, rfl⟩⟩, rfl⟩
  · have HR := hide hr; clear hr
    by_cases hb : bt t a = cC (bt t i)
    · have hl := bt_lt (s := t) (p := a) (by omega)
      have HB := hide hb; clear hb
      go_wp2_with (go_at_call 135; refine (close_at v _ a _ ha).mono ?_; rintro e w' ⟨rfl, rfl⟩; rw [if_pos (unhide HB)])
      go_ret2
      exact ⟨⟨_, _, rfl, h0, h1, .inr ⟨a + 1, b, by rw [unhide HR]; simp only [pOne]; rw [if_pos (unhide HB)], by go_num, rfl, by omega⟩⟩, rfl⟩
    · have HB := hide hb; clear hb
      go_wp2_with (go_at_call 135; refine (close_at v _ a _ ha).mono ?_; rintro e w' ⟨rfl, rfl⟩; rw [if_neg (unhide HB)])
      go_ret2
      exact ⟨⟨_, _, rfl, h0, h1, .inl ⟨by rw [unhide HR]; simp only [pOne]; rw [if_neg (unhide HB)], rfl⟩⟩, rfl⟩

/-- no longer than a text may be -/
def Sz (s : ByteArray) : Prop := s.size ≤ maxLen
theorem at_sz (s : ByteArray) (p : Int) (w : World) (h : Sz s) : Calls Tryz.prog 87 #[.string s, .int .i64 p] w fun e w' => e = .returned (.int .u8 (bt s p)) ∧ w' = w := at_any s p w h

set_option maxHeartbeats 400000 in
theorem tName_any (v : Env s t) {n : Nat} (hn : n ≤ 2005) (hE : SaidE s t n) (p q : Int) (f i : Nat) (w : World) (hp : p = f) (hq : q = i) (hi : i ≤ 2005) (hin : t.size < i + n) (hc : cN (bt s f) = true) :
    Calls Tryz.prog 48 #[.string s, .int .i64 p, .string t, .int .i64 q] w fun e w' => Ret t (n + 1) (if bt t i ≠ bt s f then none else pN s t (pE s t 0 n) f (i + 1)) e ∧ w' = w := by
  subst hp hq
  have hm : Sz t := v.mt
  have hms : Sz s := v.ms
  have hs := v.hs
  obtain ⟨j, hj, hj2⟩ := v.nm f hc
  have HJ := hide hj; clear hj
  have HC := hide hc; clear hc
  by_cases h1 : bt t i = bt s f
  case neg =>
    rw [if_pos h1]
    have h1' : (bt t i != bt s f) = true := by simp [h1]
    clear h1
    go_enter Tryz.func48, Tryz.ntmps48
    go_wp2_with (go_at_call 87; refine (at_sz _ _ _ ?_).mono ?_; (first | with_reducible exact hm | with_reducible exact hms); rintro e w' ⟨rfl, rfl⟩)
    go_ret2
    exact ⟨⟨_, _, rfl, by omega, by omega, .inl ⟨rfl, rfl⟩⟩, rfl⟩
  case pos =>
    rw [if_neg (by simp [h1])]
    have h1' : (bt t i != bt s f) = false := by simp [h1]
    have H1 := hide h1; clear h1
    generalize hR : pN s t (pE s t 0 n) f (i + 1) = R
    unfold pN at hR
    by_cases h2 : bt t (i + 1 : Nat) = 40
    case neg =>
      rw [if_pos h2] at hR
      have h2' : (bt t ((i : Int) + 1) != 40) = true := by simp only [bne_iff_ne]; exact h2
      have HR := hide hR; clear hR
      clear h2
      go_enter Tryz.func48, Tryz.ntmps48
      go_wp2_with (go_at_call 87; refine (at_sz _ _ _ ?_).mono ?_; (first | with_reducible exact hm | with_reducible exact hms); rintro e w' ⟨rfl, rfl⟩)
      go_ret2
      exact ⟨⟨_, _, rfl, by omega, by omega, .inl ⟨(unhide HR).symm, rfl⟩⟩, rfl⟩
    case pos =>
      rw [if_neg (fun e => e h2), unhide HJ, show ((j : Int) + 2).toNat = j + 2 by omega] at hR
      have h2' : (bt t ((i : Int) + 1) != 40) = false := by simp only [bne_eq_false_iff_eq]; exact h2
      have hcc : Hid (cC (bt t (i + 1 : Nat)) = 41) := hide (by rw [h2]; decide)
      have HR := hide hR; clear hR
      clear h2
      go_enter Tryz.func48, Tryz.ntmps48
      go_wp2_with (first | (go_at_call 87; refine (at_sz _ _ _ ?_).mono ?_; (first | with_reducible exact hm | with_reducible exact hms); rintro e w' ⟨rfl, rfl⟩) | (go_at_call 88; refine (expression_any _ _ j _ hs (unhide HJ) hj2).mono ?_; rintro e w' ⟨rfl, rfl⟩) | (go_at_call 89; refine (bracket_any v hE _ _ (j + 2) (i + 1) _ ?_ ?_ ?_ ?_ ?_ ?_).mono ?_; omega; omega; omega; omega; omega; (rw [unhide hcc]; decide); rintro e w' ⟨⟨a, h, rfl, h0, hh, hr⟩, rfl⟩))
      go_ret2
      rw [unhide hcc] at hr
      have hR := unhide HR
      rcases hr with ⟨hr, rfl⟩ | ⟨a, b, hr, rfl, rfl, ha⟩
      · refine ⟨⟨_, _, rfl, by omega, by omega, .inl ⟨?_, rfl⟩⟩, rfl⟩
        cases hq : pE s t 0 n (j + 2) (i + 1 + 1) with
        | none => rw [hq] at hR; exact hR.symm
        | some y =>
          obtain ⟨y1, y2⟩ := y
          rw [hq] at hr hR; simp only [pOne] at hr hR
          split at hr
          · cases hr
          · rename_i hne; rw [if_neg hne] at hR; exact hR.symm
      · refine ⟨⟨_, _, rfl, by omega, by omega, .inr ⟨a, b + 1, ?_, rfl, by go_num, ha⟩⟩, rfl⟩
        cases hq : pE s t 0 n (j + 2) (i + 1 + 1) with
        | none => rw [hq] at hr; cases hr
        | some y =>
          obtain ⟨y1, y2⟩ := y
          rw [hq] at hr hR; simp only [pOne] at hr hR
          split at hr
          · rename_i he; rw [if_pos he] at hR; simp at hr; rw [← hR, hr.1, hr.2]
          · cases hr

set_option maxHeartbeats 400000 in
theorem option_any (v : Env s t) {n : Nat} (hE : SaidE s t n) (p q : Int) (f i : Nat) (w : World) (hp : p = f) (hq : q = i) (hf : f ≤ 300) (hi : i ≤ 2005) (hin : t.size < i + n) (hc : bt s f = 91) (hti : bt t i = 91) :
    Calls Tryz.prog 185 #[.string s, .int .i64 p, .string t, .int .i64 q] w fun e w' => Ret t n (pB s t 0 (pE s t 0 n) f (i + 1)) e ∧ w' = w := by
  subst hp hq
  have hm : Sz t := v.mt
  have hms : Sz s := v.ms
  have HC := hide hc; have HT := hide hti
  have hcc : Hid (cC (bt t i) = 93) := hide (by rw [hti]; decide)
  by_cases h1 : bt t (i + 1 : Nat) = 93
  · have hB : Hid (pB s t 0 (pE s t 0 n) f (i + 1) = some (i + 1 + 1, 0)) := hide (by unfold pB; rw [if_pos ⟨by rw [h1, hc]; decide, .inl hc⟩])
    have hl := bt_lt (s := t) (p := i + 1) (by omega)
    have h1' : (bt t ((i : Int) + 1) == 93) = true := by simp only [beq_iff_eq]; exact h1
    clear h1 hc hti
    go_enter Tryz.func185, Tryz.ntmps185
    go_wp2_with (go_at_call 87; refine (at_sz _ _ _ ?_).mono ?_; (first | with_reducible exact hm | with_reducible exact hms); rintro e w' ⟨rfl, rfl⟩)
    go_ret2
    exact ⟨⟨_, _, rfl, by omega, by omega, .inr ⟨i + 1 + 1, 0, unhide hB, by go_num, rfl, by omega⟩⟩, rfl⟩
  · have hB : Hid (pB s t 0 (pE s t 0 n) f (i + 1) = pOne t (pE s t 0 n (f + 1) (i + 1)) 93) := hide (by
      unfold pB; rw [if_neg (by rw [hc]; intro e; exact h1 (e.1.trans (by decide))), hc]
      rw [show (decide ((91 : Int) = 123 ∨ (91 : Int) = 60)) = false by decide, show cC 91 = 93 by decide, pEl_one (fun h => pE_out h)]; rfl)
    have h1' : (bt t ((i : Int) + 1) == 93) = false := by simp only [beq_eq_false_iff_ne]; exact h1
    clear h1 hc hti
    go_enter Tryz.func185, Tryz.ntmps185
    go_wp2_with (first | (go_at_call 87; refine (at_sz _ _ _ ?_).mono ?_; (first | with_reducible exact hm | with_reducible exact hms); rintro e w' ⟨rfl, rfl⟩) | (go_at_call 89; refine (bracket_any v hE _ _ (f + 1) i _ ?_ ?_ ?_ ?_ ?_ ?_).mono ?_; omega; omega; omega; omega; omega; (rw [unhide hcc]; decide); rintro e w' ⟨⟨a, h, rfl, h0, hh, hr⟩, rfl⟩))
    go_ret2
    rw [unhide hcc, ← unhide hB] at hr
    exact ⟨⟨_, _, rfl, h0, hh, hr⟩, rfl⟩

/-- what gets less while elements are read -/
def msr (v : Value) : Nat := if intOf v < 0 then 0 else (2011 - intOf v).toNat
theorem msr_neg : msr (.int .i64 (-1)) = 0 := by simp [msr, intOf]
theorem msr_nat (a : Nat) : msr (.int .i64 a) = 2011 - a := by
  have e : intOf (.int .i64 (a : Int)) = a := rfl
  unfold msr; rw [e, if_neg (by omega)]; omega

set_option maxHeartbeats 400000 in
theorem elements_any (v : Env s t) {n : Nat} (hn : n ≤ 2005) (hE : SaidE s t n) (p q : Int) (x i : Nat) (w : World) (b : Int) (hp : p = x) (hq : q = i) (hx : x ≤ 302) (hi : i ≤ 2005) (hin : t.size < i + n) (hb : b ≠ 44) :
    Calls Tryz.prog 187 #[.string s, .int .i64 p, .string t, .int .i64 q] w fun e w' => (∃ j h : Int, e = .returned (.tuple #[.int .i64 j, .int .i64 h]) ∧ 0 ≤ h ∧ h ≤ n ∧
      ((pEl t (pE s t 0 n x) b true 0 (t.size - i) i 0 0 = none ∧ j = -1) ∨ ∃ a c : Nat, pEl t (pE s t 0 n x) b true 0 (t.size - i) i 0 0 = (if bt t a = b then some (a + 1, c) else none) ∧ j = a ∧ h = c ∧ a ≤ t.size)) ∧ w' = w := by
  subst hp hq
  have ht := v.ht
  have hm : Sz t := v.mt
  have hms : Sz s := v.ms
  generalize hR : pEl t (pE s t 0 n x) b true 0 (t.size - i) i 0 0 = R
  have HR := hide hR; clear hR
  go_enter Tryz.func187, Tryz.ntmps187
  go_wp2_with fail
  refine (hE _ _ x i _ rfl rfl hx (by omega) hin).mono ?_
  rintro e w' ⟨⟨j0, hh0, rfl, h0, h1, hr⟩, rfl⟩
  go_wp2
  go_loop [10, 11] (fun ev gv => ∃ je hg : Int, ev = .int .i64 je ∧ gv = .int .i64 hg ∧ 0 ≤ hg ∧ hg ≤ n ∧ ((Hid (R = none) ∧ je = -1) ∨ ∃ (a c m : Nat) (cnt : Int), je = a ∧ hg = c ∧ i ≤ a ∧ a ≤ t.size ∧ t.size - (a + 1) ≤ m ∧ Hid (R = if bt t a = b then some (a + 1, c) else if bt t a = 44 then pEl t (pE s t 0 n x) b true 0 m (a + 1) c cnt else none))) (fun ev _ => msr ev)
  case atStart =>
    refine ⟨j0, hh0, rfl, rfl, h0, h1, ?_⟩
    have hR := unhide HR
    rcases hr with ⟨hr, rfl⟩ | ⟨a, c, hr, rfl, rfl, ha⟩
    · left
      refine ⟨hide ?_, rfl⟩
      rw [← hR]
      cases t.size - i with
      | zero => rfl
      | succ m => simp only [pEl, hr]
    · right
      have hf := pE_fwd s t 0 n x i a c hr
      refine ⟨a, c, t.size - i - 1, 1, rfl, rfl, by omega, ha, by omega, hide ?_⟩
      rw [← hR]
      obtain ⟨m, hm⟩ : ∃ m, t.size - i = m + 1 := ⟨t.size - i - 1, by omega⟩
      rw [hm]
      simp only [pEl, hr]
      rw [if_neg (by omega)]
      simp
  case round =>
    obtain ⟨je, hg, rfl, rfl, g0, g1, hrr⟩ := hrel
    clear h0 h1 hr
    rcases hrr with ⟨hN, rfl⟩ | ⟨a, c, m, cnt, rfl, rfl, hia, hat, hmm, hN⟩
    · have hb0 : (bt t (-1) == 44) = false := by rw [bt_out t (-1) (by omega)]; decide
      go_wp2_with (go_at_call 87; refine (at_sz _ _ _ ?_).mono ?_; (first | with_reducible exact hm | with_reducible exact hms); rintro e w' ⟨rfl, rfl⟩)
      go_ret2
      exact ⟨⟨_, _, rfl, g0, g1, .inl ⟨unhide hN, rfl⟩⟩, rfl⟩
    · by_cases hc : bt t a = 44
      · have hl := bt_lt (s := t) (p := a) (by omega)
        have hc' : (bt t a == 44) = true := by simp [hc]
        have hN2 := unhide hN
        rw [if_neg (by rw [hc]; exact hb.symm), if_pos hc] at hN2
        have HN := hide hN2
        clear hN hN2 hc
        go_wp2_with (first | (go_at_call 87; refine (at_sz _ _ _ ?_).mono ?_; (first | with_reducible exact hm | with_reducible exact hms); rintro e w' ⟨rfl, rfl⟩) | (go_at_call 134; refine (hE _ _ x (a + 1) _ ?_ ?_ ?_ ?_ ?_).mono ?_; rfl; omega; omega; omega; omega; rintro e w' ⟨⟨j1, h1, rfl, h0, hh1, hr1⟩, rfl⟩) | (go_at_call 98; refine (greater_any _ _ _).mono ?_; rintro e w' ⟨rfl, rfl⟩))
        go_round
        case rel =>
          refine ⟨j1, max c h1, rfl, rfl, by omega, by omega, ?_⟩
          have hR := unhide HN
          rcases hr1 with ⟨hr1, rfl⟩ | ⟨a1, c1, hr1, rfl, rfl, ha1⟩
          · left
            refine ⟨hide ?_, rfl⟩
            rw [hR]
            cases m with
            | zero => rfl
            | succ m => simp only [pEl, hr1]
          · right
            have hf := pE_fwd s t 0 n x (a + 1) a1 c1 hr1
            obtain ⟨m', rfl⟩ : ∃ m', m = m' + 1 := ⟨m - 1, by omega⟩
            refine ⟨a1, max c c1, m', cnt + 1, rfl, by omega, by omega, ha1, by omega, hide ?_⟩
            rw [hR]
            simp only [pEl, hr1]
            rw [if_neg (by omega)]
            simp
        case measure =>
          rcases hr1 with ⟨_, rfl⟩ | ⟨a1, c1, hr1, rfl, rfl, ha1⟩
          · simp [msr_neg, msr_nat]; omega
          · have hf := pE_fwd s t 0 n x (a + 1) a1 c1 hr1
            simp [msr_nat]; omega
      · have hc' : (bt t a == 44) = false := by simp only [beq_eq_false_iff_ne]; exact hc
        have hN2 := unhide hN
        rw [if_neg hc] at hN2
        have HN := hide hN2
        clear hN hN2 hc
        go_wp2_with (go_at_call 87; refine (at_sz _ _ _ ?_).mono ?_; (first | with_reducible exact hm | with_reducible exact hms); rintro e w' ⟨rfl, rfl⟩)
        go_ret2
        exact ⟨⟨_, _, rfl, g0, g1, .inr ⟨a, c, unhide HN, rfl, rfl, hat⟩⟩, rfl⟩

theorem lst_not44 {c : Int} : cC c ≠ 44 := by rcases cC_vals c with h | h | h | h | h <;> omega

set_option maxHeartbeats 400000 in
theorem list_any (v : Env s t) {n : Nat} (hn : n ≤ 2005) (hE : SaidE s t n) (p q : Int) (f i : Nat) (w : World) (hp : p = f) (hq : q = i) (hf : f ≤ 300) (hi : i ≤ 2003) (hin : t.size < i + n) (hc : bt s f = 123 ∨ bt s f = 60) (hti : bt t i = bt s f) :
    Calls Tryz.prog 186 #[.string s, .int .i64 p, .string t, .int .i64 q] w fun e w' => Ret t n (pB s t 0 (pE s t 0 n) f (i + 1)) e ∧ w' = w := by
  subst hp hq
  have hm : Sz t := v.mt
  have hms : Sz s := v.ms
  generalize hR : pB s t 0 (pE s t 0 n) f (i + 1) = R
  unfold pB at hR
  have hd : decide (bt s f = 123 ∨ bt s f = 60) = true := by simpa using hc
  rw [hd] at hR
  by_cases h1 : bt t i = 123 ∧ bt t (i + 1 : Nat) = 125
  · have hsf : bt s f = 123 := by omega
    rw [if_pos ⟨by rw [h1.2, hsf]; decide, .inr hsf⟩] at hR
    have hl := bt_lt (s := t) (p := i + 1) (by omega)
    have h1' : (bt t i == 123) = true := by simp [h1.1]
    have h2' : (bt t ((i : Int) + 1) == 125) = true := by simp only [beq_iff_eq]; exact h1.2
    have HR := hide hR; clear hR
    clear h1 hc hti hsf hd
    go_enter Tryz.func186, Tryz.ntmps186
    go_wp2_with (go_at_call 87; refine (at_sz _ _ _ ?_).mono ?_; (first | with_reducible exact hm | with_reducible exact hms); rintro e w' ⟨rfl, rfl⟩)
    go_ret2
    exact ⟨⟨_, _, rfl, by omega, by omega, .inr ⟨i + 1 + 1, 0, (unhide HR).symm, by go_num, rfl, by omega⟩⟩, rfl⟩
  · rw [if_neg (by
      rintro ⟨e1, e2⟩
      have hsf : bt s f = 123 := by omega
      rw [hsf] at e1
      exact h1 ⟨by omega, e1.trans (by decide)⟩)] at hR
    have hcase : Hid ((bt t i == 123) = false ∨ (bt t i == 123) = true ∧ (bt t ((i : Int) + 1) == 125) = false) := hide (by
      by_cases e : bt t i = 123
      · exact .inr ⟨by simp [e], by simp only [beq_eq_false_iff_ne]; exact fun e2 => h1 ⟨e, e2⟩⟩
      · exact .inl (by simp only [beq_eq_false_iff_ne]; exact e))
    have hccv : Hid (cC (bt t i) = cC (bt s f)) := hide (by rw [hti])
    have hcz : cC (bt s f) ≠ 0 := by rcases hc with e | e <;> rw [e] <;> decide
    have HR := hide hR; clear hR
    clear h1 hc hti hd
    have n44 := hide (lst_not44 (c := bt s f))
    rcases unhide hcase with h1' | ⟨h1', h2'⟩
    all_goals
      go_enter Tryz.func186, Tryz.ntmps186
      go_wp2_with (first | (go_at_call 87; refine (at_sz _ _ _ ?_).mono ?_; (first | with_reducible exact hm | with_reducible exact hms); rintro e w' ⟨rfl, rfl⟩) | (go_at_call 187; refine (elements_any v hn hE _ _ (f + 1) (i + 1) _ (cC (bt s f)) ?_ ?_ ?_ ?_ ?_ (unhide n44)).mono ?_; omega; omega; omega; omega; omega; rintro e w' ⟨⟨j1, h1, rfl, h0, hh1, hr1⟩, rfl⟩))
      rcases hr1 with ⟨hr1, rfl⟩ | ⟨a1, c1, hr1, rfl, rfl, ha1⟩
      · have HR1 := hide hr1; clear hr1
        go_wp2_with (go_at_call 135; refine (close_no v _ _).mono ?_; rintro e w' ⟨rfl, rfl⟩)
        go_ret2
        exact ⟨⟨_, _, rfl, h0, hh1, .inl ⟨(unhide HR).symm.trans (unhide HR1), rfl⟩⟩, rfl⟩
      · have HR1 := hide hr1; clear hr1
        by_cases hb : bt t a1 = cC (bt s f)
        · have hl := bt_lt (s := t) (p := a1) (by omega)
          have HB := hide hb; clear hb
          go_wp2_with (go_at_call 135; refine (close_at v _ a1 _ ha1).mono ?_; rintro e w' ⟨rfl, rfl⟩; rw [if_pos ((unhide HB).trans (unhide hccv).symm)])
          go_ret2
          exact ⟨⟨_, _, rfl, h0, hh1, .inr ⟨a1 + 1, c1, (unhide HR).symm.trans ((unhide HR1).trans (if_pos (unhide HB))), by go_num, rfl, by omega⟩⟩, rfl⟩
        · have HB := hide hb; clear hb
          go_wp2_with (go_at_call 135; refine (close_at v _ a1 _ ha1).mono ?_; rintro e w' ⟨rfl, rfl⟩; rw [if_neg (fun e => unhide HB (e.trans (unhide hccv)))])
          go_ret2
          exact ⟨⟨_, _, rfl, h0, hh1, .inl ⟨(unhide HR).symm.trans ((unhide HR1).trans (if_neg (unhide HB))), rfl⟩⟩, rfl⟩

theorem Ret.up {t : ByteArray} {n : Nat} {r : Option (Nat × Nat)} {j h : Int} (h0 : 0 ≤ h) (h1 : h ≤ n) (hr : (r = none ∧ j = -1) ∨ ∃ a b : Nat, r = some (a, b) ∧ j = a ∧ h = b ∧ a ≤ t.size) : Ret t (n + 1) r (.returned (.tuple #[.int .i64 j, .int .i64 h])) :=
  ⟨j, h, rfl, h0, by omega, hr⟩

set_option maxHeartbeats 400000 in
theorem factor_any (v : Env s t) {n : Nat} (hn : n ≤ 2005) (hE : SaidE s t n) (p q : Int) (f i : Nat) (w : World) (hp : p = f) (hq : q = i) (hi : i ≤ 2003) (hin : t.size < i + n) (hf : isF s f = true) :
    Calls Tryz.prog 182 #[.string s, .int .i64 p, .string t, .int .i64 q] w fun e w' => Ret t (n + 1) (pF s t 0 (pE s t 0 n) f i) e ∧ w' = w := by
  subst hp hq
  have hs := v.hs
  have hfl := isF_lt hf
  have hm : Sz t := v.mt
  have hms : Sz s := v.ms
  have HF := hide hf
  generalize hR : pF s t 0 (pE s t 0 n) f i = R
  unfold pF at hR
  by_cases h1 : bt t i = bt s f
  case neg =>
    rw [if_pos h1] at hR
    have h1' : (bt t i != bt s f) = true := by simp [h1]
    have HR := hide hR; clear hR h1 hf
    go_enter Tryz.func182, Tryz.ntmps182
    go_wp2_with (go_at_call 87; refine (at_sz _ _ _ ?_).mono ?_; (first | with_reducible exact hm | with_reducible exact hms); rintro e w' ⟨rfl, rfl⟩)
    go_ret2
    exact ⟨⟨_, _, rfl, by omega, by omega, .inl ⟨(unhide HR).symm, rfl⟩⟩, rfl⟩
  rw [if_neg (by simp [h1])] at hR
  have h1' : (bt t i != bt s f) = false := by simp [h1]
  have hnz : bt s f ≠ 0 := by intro e; rw [isF, e] at hf; exact absurd hf (by decide)
  have hil := bt_lt (s := t) (p := i) (by omega)
  by_cases h2 : cL (bt s f) = true
  · rw [if_pos h2] at hR
    have H2 := hide h2
    have HR := hide hR; clear hR h1 hf h2 hnz
    go_enter Tryz.func182, Tryz.ntmps182
    go_wp2_with (first | (go_at_call 87; refine (at_sz _ _ _ ?_).mono ?_; (first | with_reducible exact hm | with_reducible exact hms); rintro e w' ⟨rfl, rfl⟩) | (go_at_call 102; refine (isLetter_any _ _).mono ?_; rintro e w' ⟨rfl, rfl⟩; rw [unhide H2]))
    go_ret2
    exact ⟨⟨_, _, rfl, by omega, by omega, .inr ⟨i + 1, 0, (unhide HR).symm, by go_num, rfl, by omega⟩⟩, rfl⟩
  rw [if_neg h2] at hR
  have h2f : cL (bt s f) = false := by simpa using h2
  by_cases h3 : cN (bt s f) = true
  · rw [if_pos h3] at hR
    have H2 := hide h2f
    have H3 := hide h3
    have H1 := hide h1
    have HR := hide hR; clear hR h1 hf h2 h3 h2f hnz
    go_enter Tryz.func182, Tryz.ntmps182
    go_wp2_with (first | (go_at_call 87; refine (at_sz _ _ _ ?_).mono ?_; (first | with_reducible exact hm | with_reducible exact hms); rintro e w' ⟨rfl, rfl⟩) | (go_at_call 102; refine (isLetter_any _ _).mono ?_; rintro e w' ⟨rfl, rfl⟩; rw [unhide H2]) | (go_at_call 86; refine (isName_any _ _).mono ?_; rintro e w' ⟨rfl, rfl⟩; rw [unhide H3]) | (go_at_call 48; refine (tName_any v hn hE _ _ f i _ rfl rfl ?_ hin (unhide H3)).mono ?_; omega; rw [if_neg (fun e => e (unhide H1)), unhide HR]; rintro e w' ⟨⟨j, h, rfl, h0, hh, hr⟩, rfl⟩))
    go_ret2
    exact ⟨⟨_, _, rfl, h0, hh, hr⟩, rfl⟩
  rw [if_neg h3] at hR
  have h3f : cN (bt s f) = false := by simpa using h3
  have H2 := hide h2f
  have H3 := hide h3f
  have hop := cO_vals (show cO (bt s f) = true by simpa [isF, h2f, h3f] using hf)
  by_cases h4 : bt s f = 40
  · have hccv : Hid (cC (bt t i) = 41) := hide (by rw [h1, h4]; decide)
    have hB : pB s t 0 (pE s t 0 n) f (i + 1) = pOne t (pE s t 0 n (f + 1) (i + 1)) 41 := by
      unfold pB; rw [if_neg (by rw [h4]; omega), h4]
      rw [show (decide ((40 : Int) = 123 ∨ (40 : Int) = 60)) = false by decide, show cC 40 = 41 by decide, pEl_one (fun h => pE_out h)]; rfl
    rw [hB] at hR
    have h4' : (bt s f == 40) = true := by simp [h4]
    have HR := hide hR; clear hR h1 hf h2 h3 h2f h3f hnz hop h4 hB
    go_enter Tryz.func182, Tryz.ntmps182
    go_wp2_with (first | (go_at_call 87; refine (at_sz _ _ _ ?_).mono ?_; (first | with_reducible exact hm | with_reducible exact hms); rintro e w' ⟨rfl, rfl⟩) | (go_at_call 102; refine (isLetter_any _ _).mono ?_; rintro e w' ⟨rfl, rfl⟩; rw [unhide H2]) | (go_at_call 86; refine (isName_any _ _).mono ?_; rintro e w' ⟨rfl, rfl⟩; rw [unhide H3]) | (go_at_call 89; refine (bracket_any v hE _ _ (f + 1) i _ ?_ ?_ ?_ ?_ ?_ ?_).mono ?_; omega; omega; omega; omega; omega; (rw [unhide hccv]; decide); rw [unhide hccv, unhide HR]; rintro e w' ⟨⟨j, h, rfl, h0, hh, hr⟩, rfl⟩))
    go_ret2
    exact ⟨Ret.up h0 hh hr, rfl⟩
  have h4' : (bt s f == 40) = false := by simp only [beq_eq_false_iff_ne]; exact h4
  by_cases h5 : bt s f = 91
  · have h5' : (bt s f == 91) = true := by simp [h5]
    have H5 := hide h5
    have HT : Hid (bt t i = 91) := hide (h1.trans h5)
    have HR := hide hR; clear hR h1 hf h2 h3 h2f h3f hnz hop h4 h5
    go_enter Tryz.func182, Tryz.ntmps182
    go_wp2_with (first | (go_at_call 87; refine (at_sz _ _ _ ?_).mono ?_; (first | with_reducible exact hm | with_reducible exact hms); rintro e w' ⟨rfl, rfl⟩) | (go_at_call 102; refine (isLetter_any _ _).mono ?_; rintro e w' ⟨rfl, rfl⟩; rw [unhide H2]) | (go_at_call 86; refine (isName_any _ _).mono ?_; rintro e w' ⟨rfl, rfl⟩; rw [unhide H3]) | (go_at_call 185; refine (option_any v hE _ _ f i _ rfl rfl ?_ ?_ hin (unhide H5) (unhide HT)).mono ?_; omega; omega; rw [unhide HR]; rintro e w' ⟨⟨j, h, rfl, h0, hh, hr⟩, rfl⟩))
    go_ret2
    exact ⟨Ret.up h0 hh hr, rfl⟩
  · have h5' : (bt s f == 91) = false := by simp only [beq_eq_false_iff_ne]; exact h5
    have H5 : Hid (bt s f = 123 ∨ bt s f = 60) := hide (by omega)
    have HT : Hid (bt t i = bt s f) := hide h1
    have HR := hide hR; clear hR h1 hf h2 h3 h2f h3f hnz hop h4 h5
    go_enter Tryz.func182, Tryz.ntmps182
    go_wp2_with (first | (go_at_call 87; refine (at_sz _ _ _ ?_).mono ?_; (first | with_reducible exact hm | with_reducible exact hms); rintro e w' ⟨rfl, rfl⟩) | (go_at_call 102; refine (isLetter_any _ _).mono ?_; rintro e w' ⟨rfl, rfl⟩; rw [unhide H2]) | (go_at_call 86; refine (isName_any _ _).mono ?_; rintro e w' ⟨rfl, rfl⟩; rw [unhide H3]) | (go_at_call 186; refine (list_any v hn hE _ _ f i _ rfl rfl ?_ ?_ hin (unhide H5) (unhide HT)).mono ?_; omega; omega; rw [unhide HR]; rintro e w' ⟨⟨j, h, rfl, h0, hh, hr⟩, rfl⟩))
    go_ret2
    exact ⟨Ret.up h0 hh hr, rfl⟩
end
end Go.Proofs.YtnfaiaoipeholaaGreatDoor

namespace Go.Proofs.YtnfaiaoipeholaaGreatDoor
open Go.RowKit
section
variable {s t : ByteArray}

set_option maxHeartbeats 400000 in
theorem factors_any (v : Env s t) {n : Nat} (hn : n ≤ 2003) (hE : SaidE s t n) (p q : Int) (f i : Nat) (w : World) (hp : p = f) (hq : q = i) (hf : f ≤ 302) (hi : i ≤ t.size) (hin : t.size < i + n) :
    Calls Tryz.prog 164 #[.string s, .int .i64 p, .string t, .int .i64 q] w fun e w' => Ret t (n + 1) (pFs (pF s t 0 (pE s t 0 n)) (fe s f).1 i 0) e ∧ w' = w := by
  subst hp hq
  have hs := v.hs
  have ht := v.ht
  generalize hR : pFs (pF s t 0 (pE s t 0 n)) (fe s f).1 i 0 = R
  have HR := hide hR; clear hR
  go_enter Tryz.func164, Tryz.ntmps164
  go_wp2
  go_loop [1, 10, 11] (fun fv ev gv => ∃ (k : Nat) (je hg : Int), fv = .int .i64 k ∧ ev = .int .i64 je ∧ gv = .int .i64 hg ∧ k ≤ 302 ∧ 0 ≤ hg ∧ hg ≤ n + 1 ∧ ((Hid (R = none) ∧ je = -1) ∨ ∃ a c : Nat, je = a ∧ hg = c ∧ i ≤ a ∧ a ≤ t.size ∧ Hid (R = pFs (pF s t 0 (pE s t 0 n)) (fe s k).1 a c))) (fun fv _ _ => (303 - intOf fv).toNat)
  case atStart => exact ⟨f, i, 0, rfl, rfl, rfl, hf, by omega, by omega, .inr ⟨i, 0, rfl, rfl, by omega, hi, hide (unhide HR).symm⟩⟩
  case round =>
    obtain ⟨k, je, hg, rfl, rfl, rfl, hk, g0, g1, hrr⟩ := hrel
    rcases hrr with ⟨hN, rfl⟩ | ⟨a, c, rfl, rfl, hia, hat, hN⟩
    · go_wp2
      go_ret2
      exact ⟨⟨_, _, rfl, g0, by omega, .inl ⟨unhide hN, rfl⟩⟩, rfl⟩
    · have hne : ((a : Int) != -1) = true := by simp only [bne_iff_ne]; omega
      cases hF : isF s k
      · have HF := hide hF; clear hF
        go_wp2_with (go_at_call 168; refine (isFactor_any _ _ k _ hs rfl).mono ?_; rintro e w' ⟨rfl, rfl⟩; rw [unhide HF])
        go_ret2
        exact ⟨⟨_, _, rfl, g0, by omega, .inr ⟨a, c, by rw [unhide hN, fe_no (unhide HF)]; rfl, rfl, rfl, hat⟩⟩, rfl⟩
      · have hb := bh_bd hF
        have hl := isF_lt hF
        have HF := hide hF; clear hF
        go_wp2_with (first | (go_at_call 168; refine (isFactor_any _ _ k _ hs rfl).mono ?_; rintro e w' ⟨rfl, rfl⟩; rw [unhide HF]) | (go_at_call 182; refine (factor_any v ?_ hE _ _ k a _ rfl rfl ?_ ?_ (unhide HF)).mono ?_; omega; omega; omega; rintro e w' ⟨⟨j1, h1, rfl, h0, hh1, hr1⟩, rfl⟩) | (go_at_call 98; refine (greater_any _ _ _).mono ?_; rintro e w' ⟨rfl, rfl⟩) | (go_at_call 169; refine (behind_any _ _ k _ hs rfl ?_).mono ?_; omega; rintro e w' ⟨rfl, rfl⟩))
        go_round
        case rel =>
          refine ⟨bh s k, j1, max c h1, rfl, rfl, rfl, by omega, by omega, by omega, ?_⟩
          have hR := unhide hN
          rw [fe_yes (unhide HF)] at hR
          rcases hr1 with ⟨hr1, rfl⟩ | ⟨a1, c1, hr1, rfl, rfl, ha1⟩
          · left
            exact ⟨hide (by rw [hR]; simp only [pFs, hr1]), rfl⟩
          · right
            have hf := pF_fwd (most := 0) (fun x i => pE_fwd s t 0 n x i) (unhide HF) a1 c1 hr1
            exact ⟨a1, max c c1, rfl, by omega, by omega, ha1, hide (by rw [hR]; simp only [pFs, hr1])⟩
        case measure => simp [intOf]; omega

set_option maxHeartbeats 400000 in
theorem expr_step (v : Env s t) {n : Nat} (hn : n ≤ 2003) (hE : SaidE s t n) : SaidE s t (n + 1) := by
  intro p q x i w hp hq hx hi hin
  subst hp hq
  have hs := v.hs
  have ht := v.ht
  have hm : Sz t := v.mt
  have hms : Sz s := v.ms
  generalize hR : pE s t 0 (n + 1) x i = R
  unfold pE at hR
  cases hd : cD (bt t i)
  · rw [if_neg (by simp [hd])] at hR
    have HR := hide hR; have HD := hide hd; clear hR hd
    go_enter Tryz.func134, Tryz.ntmps134
    go_wp2_with (first | (go_at_call 87; refine (at_sz _ _ _ ?_).mono ?_; (first | with_reducible exact hm | with_reducible exact hms); rintro e w' ⟨rfl, rfl⟩) | (go_at_call 90; refine (isDigit_any _ _).mono ?_; rintro e w' ⟨rfl, rfl⟩; rw [unhide HD]))
    go_ret2
    exact ⟨⟨_, _, rfl, by omega, by omega, .inl ⟨(unhide HR).symm, rfl⟩⟩, rfl⟩
  · rw [if_pos hd] at hR
    have hdv : 48 ≤ bt t i ∧ bt t i ≤ 57 := by simpa [cD] using hd
    have hl := bt_lt (s := t) (p := i) (by omega)
    have HD := hide hd; clear hd
    obtain ⟨d, hdn⟩ : ∃ d : Nat, bt t i - 48 = (d : Int) := ⟨(bt t i - 48).toNat, by omega⟩
    rw [show (bt t i - 48).toNat = d by omega] at hR
    have HDN := hide hdn
    have hd20 : d ≤ 20 := by omega
    clear hdn
    cases ha : ap s d x with
    | none =>
      rw [ha] at hR
      have HA := hide ha; have HR := hide hR; clear ha hR
      go_enter Tryz.func134, Tryz.ntmps134
      go_wp2_with (first | (go_at_call 87; refine (at_sz _ _ _ ?_).mono ?_; (first | with_reducible exact hm | with_reducible exact hms); rintro e w' ⟨rfl, rfl⟩) | (go_at_call 90; refine (isDigit_any _ _).mono ?_; rintro e w' ⟨rfl, rfl⟩; rw [unhide HD]) | (go_at_call 163; refine (alternative_any _ _ _ x d _ hs rfl (unhide HDN) hx hd20).mono ?_; rw [unhide HA]; rintro e w' ⟨rfl, rfl⟩; simp only [pl]))
      go_ret2
      exact ⟨⟨_, _, rfl, by omega, by omega, .inl ⟨(unhide HR).symm, rfl⟩⟩, rfl⟩
    | some a =>
      rw [ha] at hR
      have hab := ap_bd ha
      have hne : ((a : Int) == -1) = false := by simp only [beq_eq_false_iff_ne]; omega
      have HA := hide ha; have HR := hide hR; clear ha hR
      go_enter Tryz.func134, Tryz.ntmps134
      go_wp2_with (first | (go_at_call 87; refine (at_sz _ _ _ ?_).mono ?_; (first | with_reducible exact hm | with_reducible exact hms); rintro e w' ⟨rfl, rfl⟩) | (go_at_call 90; refine (isDigit_any _ _).mono ?_; rintro e w' ⟨rfl, rfl⟩; rw [unhide HD]) | (go_at_call 163; refine (alternative_any _ _ _ x d _ hs rfl (unhide HDN) hx hd20).mono ?_; rw [unhide HA]; rintro e w' ⟨rfl, rfl⟩; simp only [pl]) | (go_at_call 164; refine (factors_any v hn hE _ _ a (i + 1) _ ?_ ?_ ?_ ?_ ?_).mono ?_; rfl; omega; omega; omega; omega; rintro e w' ⟨⟨j1, h1, rfl, h0, hh1, hr1⟩, rfl⟩))
      go_ret2
      refine ⟨⟨_, _, rfl, h0, hh1, ?_⟩, rfl⟩
      have hR := unhide HR
      rw [← hR]; exact hr1

theorem expr_all (v : Env s t) : ∀ n, n ≤ 2004 → SaidE s t n
  | 0, _ => by
    intro p q x i w hp hq hx hi hin
    subst hp hq
    have hm : Sz t := v.mt
    have hms : Sz s := v.ms
    have hz : bt t i = 0 := bt_out t i (by omega)
    have HD : Hid (cD (bt t i) = false) := hide (by rw [hz]; decide)
    clear hz
    go_enter Tryz.func134, Tryz.ntmps134
    go_wp2_with (first | (go_at_call 87; refine (at_sz _ _ _ ?_).mono ?_; (first | with_reducible exact hm | with_reducible exact hms); rintro e w' ⟨rfl, rfl⟩) | (go_at_call 90; refine (isDigit_any _ _).mono ?_; rintro e w' ⟨rfl, rfl⟩; rw [unhide HD]))
    go_ret2
    exact ⟨⟨_, _, rfl, by omega, by omega, .inl ⟨rfl, rfl⟩⟩, rfl⟩
  | n + 1, h => expr_step v (by omega) (expr_all v n (by omega))

/-- the answer, of a grammar without a fault -/
def wh (s t : ByteArray) : Int × Int := match whole s t 0 with
  | none => (0, 7)
  | some h => ((h : Int), 0)
theorem gram_start {s : ByteArray} (g : Gram s) : cN (bt s (0 : Nat)) = true := (g.rule 0 g.pos (by simp [begB])).1
theorem Gram.env {s t : ByteArray} (g : Gram s) (ht : t.size ≤ 2000) : Env s t :=
  ⟨g.small, ht, fun f hf => by obtain ⟨j, h1, h2, _⟩ := g.name f hf; exact ⟨j, h1, h2⟩⟩
theorem pF_name {s t : ByteArray} {most : Int} {rec : Nat → Nat → Option (Nat × Nat)} {f i : Nat} (h : cN (bt s f) = true) : pF s t most rec f i = if bt t i ≠ bt s f then none else pN s t rec f (i + 1) := by
  have hl : ¬ cL (bt s f) = true := by
    have hv : 65 ≤ bt s f ∧ bt s f ≤ 90 := by simpa [cN] using h
    simp [cL]; omega
  unfold pF; rw [if_neg hl, if_pos h]

set_option maxHeartbeats 400000 in
theorem tHeight_any (g : Gram s) (w : World) (hm : t.size ≤ maxLen) :
    Calls Tryz.prog 22 #[.string s, .string t] w fun e w' => e = .returned (.tuple #[.int .i64 (wh s t).1, .int .i64 (wh s t).2]) ∧ w' = w := by
  unfold maxLen at hm
  generalize hR : wh s t = R
  unfold wh whole at hR
  by_cases hl : 2000 < t.size
  · rw [if_pos hl] at hR
    have HR := hide hR; clear hR
    go_enter Tryz.func22, Tryz.ntmps22
    go_wp2
    go_ret2
    exact ⟨by rw [← unhide HR]; rfl, rfl⟩
  · rw [if_neg hl, pF_name (gram_start g)] at hR
    have v : Env s t := g.env (by omega)
    have HC := hide (gram_start g)
    have HR := hide hR; clear hR
    go_enter Tryz.func22, Tryz.ntmps22
    go_wp2_with fail
    refine (tName_any v (n := t.size + 1) (by omega) (expr_all v _ (by omega)) _ _ 0 0 _ rfl rfl (by omega) (by omega) (unhide HC)).mono ?_
    rintro e w' ⟨⟨j1, h1, rfl, h0, hh1, hr1⟩, rfl⟩
    rcases hr1 with ⟨hr1, rfl⟩ | ⟨a1, c1, hr1, rfl, rfl, ha1⟩
    · have hR := unhide HR
      rw [hr1] at hR
      have HR2 := hide hR; clear hR hr1
      have hne : ((-1 : Int) != (t.size : Int)) = true := by simp only [bne_iff_ne]; omega
      go_wp2
      go_ret2
      exact ⟨by rw [← unhide HR2]; rfl, rfl⟩
    · have hR := unhide HR
      rw [hr1] at hR
      simp only at hR
      by_cases he : a1 = t.size
      · rw [if_pos he] at hR
        have HR2 := hide hR; clear hR hr1
        have hne : ((a1 : Int) != (t.size : Int)) = false := by simp [he]
        clear he
        go_wp2
        go_ret2
        exact ⟨by rw [← unhide HR2]; rfl, rfl⟩
      · rw [if_neg he] at hR
        have HR2 := hide hR; clear hR hr1
        have hne : ((a1 : Int) != (t.size : Int)) = true := by simp only [bne_iff_ne]; omega
        clear he
        go_wp2
        go_ret2
        exact ⟨by rw [← unhide HR2]; rfl, rfl⟩

theorem hgt_bad (h : (chk s).1 ≠ 0) : hgt s t = (0, (chk s).1) := by unfold hgt; rw [if_pos h]
theorem hgt_good (h : (chk s).1 = 0) : hgt s t = wh s t := by unfold hgt; rw [if_neg (by simp [h])]; rfl

set_option maxHeartbeats 400000 in
theorem height_any (w : World) (hs : s.size ≤ maxLen) (hm : t.size ≤ maxLen) :
    Calls Tryz.prog 8 #[.string s, .string t] w fun e w' => e = .returned (.tuple #[.int .i64 (hgt s t).1, .int .i64 (hgt s t).2]) ∧ Below w.heap.size w w' := by
  by_cases h : (chk s).1 = 0
  · rw [hgt_good h]
    have h' : ((chk s).1 != 0) = false := by simp [h]
    have G := hide (gram_of h); clear h
    go_enter Tryz.func8, Tryz.ntmps8
    go_wp2_with (first | (go_at_call 21; refine (rcheck_any _ _ hs).mono ?_; rintro e w1 ⟨rfl, hb1⟩) | (go_at_call 22; refine (tHeight_any (unhide G) _ hm).mono ?_; rintro e w2 ⟨rfl, rfl⟩))
    go_ret2; exact ⟨rfl, hb1⟩
  · rw [hgt_bad h]
    have h' : ((chk s).1 != 0) = true := by simp [h]
    clear h
    go_enter Tryz.func8, Tryz.ntmps8
    go_wp2_with (first | (go_at_call 21; refine (rcheck_any _ _ hs).mono ?_; rintro e w1 ⟨rfl, hb1⟩))
    go_ret2; exact ⟨rfl, hb1⟩
end
end Go.Proofs.YtnfaiaoipeholaaGreatDoor

namespace Go.Proofs.YtnfaiaoipeholaaGreatDoor
open Go.RowKit

/-- a factor's two cells -/
def FAt (w : World) (sub : Nat → Nat → Prop) (s : ByteArray) (g j f : Nat) : Prop :=
  w.cell? ⟨g, j * 2, none⟩ = some (.int .u8 (bt s f)) ∧
  ((cO (bt s f) = false ∧ w.cell? ⟨g, j * 2 + 1, none⟩ = some (.pointer none)) ∨
   (cO (bt s f) = true ∧ ∃ p, w.cell? ⟨g, j * 2 + 1, none⟩ = some (.pointer (some ⟨p, 0, none⟩)) ∧ sub p (f + 1)))
/-- an alternative: a slice of factors -/
def AAt (w : World) (sub : Nat → Nat → Prop) (S : Nat → Prop) (s : ByteArray) (v : Value) (l : List Nat) : Prop :=
  ∃ ao cap, v = .slice ao l.length cap ∧ ∀ j, j < l.length → ∃ g, ao = some ⟨g, 0, none⟩ ∧ S g ∧ FAt w sub s g j (l.getD j 0)
/-- an expression: a pointer to a slice of alternatives; all of it in blocks of a kind -/
def EA (w : World) (s : ByteArray) : Nat → (Nat → Prop) → Nat → Nat → Prop
  | 0, _, _, _ => False
  | n + 1, S, p, x => S p ∧ ∃ N gv cap, 0 < N ∧ N ≤ 400 ∧ w.cell? ⟨p, 0, none⟩ = some (.slice (some ⟨gv, 0, none⟩) N cap) ∧ S gv ∧ ap s N x = none ∧
      ∀ k, k < N → ∃ a v, ap s k x = some a ∧ w.cell? ⟨gv, k, none⟩ = some v ∧ AAt w (EA w s n S) S s v (fe s a).1

section
variable {w w' : World} {s : ByteArray} {S S' : Nat → Prop}
theorem FAt.frame {sub sub' : Nat → Nat → Prop} {g j f : Nat} (h : FAt w sub s g j f) (hg : w'.heap[g]? = w.heap[g]?) (hs : ∀ p x, sub p x → sub' p x) : FAt w' sub' s g j f := by
  obtain ⟨h1, h2⟩ := h
  refine ⟨(World.cell?_of_block (a := ⟨g, j * 2, none⟩) hg).trans h1, ?_⟩
  rcases h2 with ⟨a, b⟩ | ⟨a, p, b, c⟩
  · exact .inl ⟨a, (World.cell?_of_block (a := ⟨g, j * 2 + 1, none⟩) hg).trans b⟩
  · exact .inr ⟨a, p, (World.cell?_of_block (a := ⟨g, j * 2 + 1, none⟩) hg).trans b, hs _ _ c⟩
theorem AAt.frame {sub sub' : Nat → Nat → Prop} {v : Value} {l : List Nat} (h : AAt w sub S s v l) (hw : ∀ b, S b → w'.heap[b]? = w.heap[b]?) (hS : ∀ b, S b → S' b) (hs : ∀ p x, sub p x → sub' p x) : AAt w' sub' S' s v l := by
  obtain ⟨ao, cap, hv, h⟩ := h
  refine ⟨ao, cap, hv, fun j hj => ?_⟩
  obtain ⟨g, ha, hg, hF⟩ := h j hj
  exact ⟨g, ha, hS g hg, hF.frame (hw g hg) hs⟩
theorem EA.frame (hw : ∀ b, S b → w'.heap[b]? = w.heap[b]?) (hS : ∀ b, S b → S' b) : ∀ n m p x, n ≤ m → EA w s n S p x → EA w' s m S' p x
  | 0, _, _, _, _, h => h.elim
  | n + 1, 0, _, _, hnm, _ => by omega
  | n + 1, m + 1, p, x, hnm, h => by
    obtain ⟨hp, N, gv, cap, h0, h0', h1, h2, h3, h4⟩ := h
    refine ⟨hS p hp, N, gv, cap, h0, h0', (World.cell?_of_block (a := ⟨p, 0, none⟩) (hw p hp)).trans h1, hS gv h2, h3, fun k hk => ?_⟩
    obtain ⟨a, v, k1, k2, k3⟩ := h4 k hk
    exact ⟨a, v, k1, (World.cell?_of_block (a := ⟨gv, k, none⟩) (hw gv h2)).trans k2, k3.frame hw hS (fun p x h => EA.frame hw hS n m p x (by omega) h)⟩
end

/-- the grammar in memory: its rules, its start -/
structure Gr (w : World) (s : ByteArray) (B g : Nat) : Prop where
  lt : g < B
  start : w.cell? ⟨g, 26, none⟩ = some (.int .u8 (bt s (0 : Nat)))
  rules : ∀ f : Nat, cN (bt s f) = true → ∃ (p n j : Nat), rl s (bt s f) = (j : Int) ∧ j < s.size ∧ w.cell? ⟨g, (bt s f - 65).toNat, none⟩ = some (.pointer (some ⟨p, 0, none⟩)) ∧ EA w s n (fun b => b < B) p (j + 2)
  nils : ∀ i : Nat, i < 26 → rl s (65 + i : Nat) = -1 → w.cell? ⟨g, i, none⟩ = some (.pointer none)
theorem EA.below {w w' : World} {s : ByteArray} {B n p x : Nat} (h : EA w s n (fun b => b < B) p x) (hb : Below w.heap.size w w') (hB : B ≤ w.heap.size) : EA w' s n (fun b => b < B) p x :=
  EA.frame (fun b hbb => hb.block b (Nat.lt_of_lt_of_le hbb hB)) (fun _ h => h) n n p x (Nat.le_refl _) h
theorem Gr.below {w w' : World} {s : ByteArray} {B g : Nat} (h : Gr w s B g) (hb : Below w.heap.size w w') (hB : B ≤ w.heap.size) : Gr w' s B g := by
  have hlt := h.lt
  refine ⟨h.lt, (hb.cell (p := ⟨g, 26, none⟩) (by show g < _; omega)).trans h.start, fun f hf => ?_, fun i hi hr => (hb.cell (p := ⟨g, i, none⟩) (by show g < _; omega)).trans (h.nils i hi hr)⟩
  obtain ⟨p, n, j, h1, h2, h3, h4⟩ := h.rules f hf
  exact ⟨p, n, j, h1, h2, (hb.cell (p := ⟨g, (bt s f - 65).toNat, none⟩) (by show g < _; omega)).trans h3, h4.below hb hB⟩
end Go.Proofs.YtnfaiaoipeholaaGreatDoor
