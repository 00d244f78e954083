/- RecMath3 PEls PRec PRec2 -/
import Derived.Test.YtnfaiaoipeholaaGreatDoorAa16
import Derived.Test.YtnfaiaoipeholaaGreatDoorAa04
import Derived.Test.YtnfaiaoipeholaaGreatDoorAa11
namespace Go.Proofs.YtnfaiaoipeholaaGreatDoor
/-- the longest list -/
def mxF (t : ByteArray) : Nat → Nat → Nat → Nat
  | 0, _, r => r
  | n + 1, i, r => mxF t n (i + 1) (if cO (bt t i) = true then max r (els t i) else r)
def mx (t : ByteArray) : Nat := mxF t t.size 0 0
theorem mxF_le (t : ByteArray) (most : Int) : ∀ n i r, ((mxF t n i r : Nat) : Int) ≤ most ↔ (r : Int) ≤ most ∧ Good t most i (i + n)
  | 0, i, r => by
    simp only [mxF]
    exact ⟨fun h => ⟨h, fun p h1 h2 _ => by omega⟩, fun h => h.1⟩
  | n + 1, i, r => by
    unfold mxF
    rw [mxF_le t most n]
    constructor
    · rintro ⟨h1, h2⟩
      split at h1
      · rename_i hc
        refine ⟨by omega, ?_⟩
        rw [show i + (n + 1) = i + 1 + n by omega]
        exact (Good.one (by omega)).join h2
      · rename_i hc
        refine ⟨h1, ?_⟩
        rw [show i + (n + 1) = i + 1 + n by omega]
        exact (Good.plain (by simpa using hc)).join h2
    · rintro ⟨h1, h2⟩
      refine ⟨?_, fun p a b c => h2 p (by omega) (by omega) c⟩
      split
      · rename_i hc
        have := h2 i (Nat.le_refl _) (by omega) hc
        omega
      · exact h1
theorem mx_le (t : ByteArray) {most : Int} (hm : 0 < most) : ((mx t : Nat) : Int) ≤ most ↔ Good t most 0 t.size := by
  unfold mx
  rw [mxF_le, Nat.zero_add]
  exact ⟨fun h => h.2, fun h => ⟨by omega, h⟩⟩

/-- factors -/
def dFs (g : Nat → Nat → Option (Nat × Nat)) (dg : Nat → Nat → List Int) : List Nat → Nat → List Int
  | [], _ => []
  | f :: L, i => dg f i ++ (match g f i with
    | none => []
    | some (j, _) => dFs g dg L j)
/-- elements -/
def dEl (t : ByteArray) (rec : Nat → Option (Nat × Nat)) (dr : Nat → List Int) (b : Int) : Nat → Nat → List Int
  | 0, _ => []
  | m + 1, i => dr i ++ (match rec i with
    | none => []
    | some (j, _) => if bt t j = b then [] else dEl t rec dr b m (j + 1))
/-- the digit of a way: none, where there is but one -/
def dgt (n w : Nat) : List Int := if 1 < n then [48 + (w : Int)] else []
theorem dgt_len (n w : Nat) : (dgt n w).length ≤ 1 := by unfold dgt; split <;> simp
/-- behind a bracket that opens -/
def dB (s t : ByteArray) (m : Nat) (rec : Nat → Nat → Option (Nat × Nat)) (dr : Nat → Nat → Nat → List Int) (l f i : Nat) : List Int :=
  dgt (cnt s m l f) (nB s t rec f i - few (bt s f)) ++ (if bt t i = cC (bt s f) ∧ (bt s f = 91 ∨ bt s f = 123) then [] else dEl t (rec (f + 1)) (dr l (f + 1)) (cC (bt s f)) (t.size - i) i)
/-- a factor -/
def dF (s t : ByteArray) (m : Nat) (rec : Nat → Nat → Option (Nat × Nat)) (dr : Nat → Nat → Nat → List Int) (l f i : Nat) : List Int :=
  if cN (bt s f) = true then dr (l - 1) (rl s (bt s f) + 2).toNat (i + 2) else if cO (bt s f) = true then dB s t m rec dr l f (i + 1) else []
/-- the number of the way of an alternative -/
def wayIx (s : ByteArray) (l x k : Nat) : Nat := ((List.range k).filter fun j => altFit s (nFit s l) (expFit s (nFit s l)) (fe s ((sts s x).getD j 0)).1).length
theorem wayIx_le (s : ByteArray) (l x k : Nat) : wayIx s l x k ≤ k := by
  have := List.length_filter_le (fun j => altFit s (nFit s l) (expFit s (nFit s l)) (fe s ((sts s x).getD j 0)).1) (List.range k); simpa [wayIx] using this
/-- an expression -/
def dE (s t : ByteArray) (m : Nat) : Nat → Nat → Nat → Nat → List Int
  | 0, _, _, _ => []
  | n + 1, l, x, i => dgt (fitL s l x).length (wayIx s l x (bt t i - 48).toNat) ++ (match ap s (bt t i - 48).toNat x with
    | none => []
    | some a => dFs (pF s t 0 (pE s t 0 n)) (dF s t m (pE s t 0 n) (dE s t m n) l) (fe s a).1 (i + 1))
/-- the choices of the whole text -/
def told (s t : ByteArray) (h m : Nat) : List Int := dF s t m (pE s t 0 (t.size + 1)) (dE s t m (t.size + 1)) h 0 0
/-- P7 -/
def rcl (s t : ByteArray) (h m : Int) : ByteArray × Int :=
  if (hgt s t).2 ≠ 0 then (⟨#[]⟩, (hgt s t).2)
  else if ¬ (1 ≤ h ∧ h ≤ 9 ∧ 1 ≤ m ∧ m ≤ 5) then (⟨#[]⟩, 9)
  else if h < (hgt s t).1 ∨ m < (mx t : Int) then (⟨#[]⟩, 10)
  else (strOfNums (told s t h.toNat m.toNat), 0)
theorem pEl_parts {t : ByteArray} {rec : Nat → Option (Nat × Nat)} {b : Int} {many : Bool} {m i top j h : Nat} {cn : Int} (e : pEl t rec b many 0 m i top cn = some (j, h)) (dr : Nat → List Int) :
    ∃ m' a k, m = m' + 1 ∧ rec i = some (a, k) ∧ k ≤ h ∧ ((bt t a = b ∧ j = a + 1 ∧ nEl t rec b m i = 1 ∧ dEl t rec dr b m i = dr i) ∨
      (bt t a ≠ b ∧ bt t a = 44 ∧ pEl t rec b many 0 m' (a + 1) (max top k) (cn + 1) = some (j, h) ∧ nEl t rec b m i = nEl t rec b m' (a + 1) + 1 ∧ dEl t rec dr b m i = dr i ++ dEl t rec dr b m' (a + 1))) := by
  have hfi := pEl_first _ _ _ _ _ _ e
  cases m with
  | zero => cases e
  | succ m =>
    unfold pEl at e
    cases hq : rec i with
    | none => rw [hq] at e; cases e
    | some q =>
      obtain ⟨a, k⟩ := q
      obtain ⟨_, j', h', g1, g2⟩ := hfi
      rw [hq] at g1 e
      simp only [Option.some.injEq, Prod.mk.injEq] at g1
      simp only at e
      rw [if_neg (by omega)] at e
      refine ⟨m, a, k, rfl, rfl, by omega, ?_⟩
      split at e
      · rename_i hb
        simp only [Option.some.injEq, Prod.mk.injEq] at e
        exact .inl ⟨hb, e.1.symm, by simp only [nEl, hq]; rw [if_pos hb], by simp only [dEl, hq]; rw [if_pos hb]; simp⟩
      rename_i hb
      split at e
      · rename_i hc
        exact .inr ⟨hb, hc.1, e, by simp only [nEl, hq]; rw [if_neg hb], by simp only [dEl, hq]; rw [if_neg hb]⟩
      · cases e
section
variable {s t : ByteArray}
/-- the elements that are left -/
def Rest (t : ByteArray) (rec : Nat → Option (Nat × Nat)) (dr : Nat → List Int) (b : Int) (j h k C q : Nat) (D Z : List Int) : Prop :=
  (k = C ∧ q + 1 = j ∧ D = Z) ∨ (k < C ∧ ∃ (mm top : Nat) (cn : Int) (many : Bool), pEl t rec b many 0 mm (if k = 0 then q else q + 1) top cn = some (j, h) ∧ nEl t rec b mm (if k = 0 then q else q + 1) + k = C ∧ Z = D ++ dEl t rec dr b mm (if k = 0 then q else q + 1))
theorem Rest.start {rec : Nat → Nat → Option (Nat × Nat)} {dr : Nat → Nat → Nat → List Int} {l f i j h : Nat} {D : List Int} (hr : ∀ i j h, rec (f + 1) i = some (j, h) → Skip t i j) (hO : cO (bt s f) = true) (e : pB s t 0 rec f i = some (j, h)) (m : Nat) :
    Rest t (rec (f + 1)) (dr l (f + 1)) (cC (bt s f)) j h 0 (nB s t rec f i) i (D ++ dgt (cnt s m l f) (nB s t rec f i - few (bt s f))) (D ++ dB s t m rec dr l f i) := by
  have hx : cX (cC (bt s f)) = true := cX_cC _ (by simpa [cO] using hO)
  unfold pB at e
  unfold nB dB nB
  split at e
  · rename_i hh
    simp only [if_pos hh]
    simp only [Option.some.injEq, Prod.mk.injEq] at e
    exact .inl ⟨rfl, e.1, by simp⟩
  · rename_i hh
    simp only [if_neg hh]
    have h1 := (pEl_skip hr hx _ _ _ _ _ _ e 1 0 (by omega)).2
    refine .inr ⟨h1, t.size - i, 0, 0, _, by rw [if_pos rfl]; exact e, by rw [if_pos rfl]; rfl, by rw [if_pos rfl]; simp⟩
/-- one more -/
theorem Rest.more {rec : Nat → Option (Nat × Nat)} {dr : Nat → List Int} {cl : Int} {j h k C q : Nat} {D Z : List Int} (hR : Rest t rec dr cl j h k C q D Z) (hk : k < C) :
    ∃ a k', rec (if k = 0 then q else q + 1) = some (a, k') ∧ k' ≤ h ∧ Rest t rec dr cl j h (k + 1) C a (D ++ dr (if k = 0 then q else q + 1)) Z := by
  rcases hR with ⟨e, _⟩ | ⟨_, mm, top, cn, many, e1, e2, e3⟩
  · omega
  · obtain ⟨m', a, k', hm, hq, hkh, hc⟩ := pEl_parts e1 dr
    refine ⟨a, k', hq, hkh, ?_⟩
    rcases hc with ⟨_, c1, c2, c3⟩ | ⟨_, c1, c2, c3, c4⟩
    · exact .inl ⟨by omega, by omega, by rw [e3, c3]⟩
    · have h1 : 1 ≤ nEl t rec cl m' (a + 1) := by
        obtain ⟨m2, a2, k2, _, _, _, hc2⟩ := pEl_parts c2 dr
        rcases hc2 with ⟨_, _, d2, _⟩ | ⟨_, _, _, d2, _⟩ <;> omega
      refine .inr ⟨by omega, m', _, _, many, by rw [if_neg (by omega)]; exact c2, by rw [if_neg (by omega)]; omega, by rw [if_neg (show ¬ (k + 1 = 0) by omega), e3, c4]; simp⟩
end
end Go.Proofs.YtnfaiaoipeholaaGreatDoor

namespace Go.Proofs.YtnfaiaoipeholaaGreatDoor
open Go.RowKit
set_option maxHeartbeats 400000 in
theorem tElements_any (t : ByteArray) (q : Int) (p : Nat) (w : World) (ht : t.size ≤ 2000) (hq : q = p) (hp : p ≤ t.size) :
    Calls Tryz.prog 99 #[.string t, .int .i64 q] w fun e w' => e = .returned (.int .i64 (els t p)) ∧ w' = w := by
  subst hq
  have ht' : t.size ≤ maxLen := by unfold maxLen; omega
  generalize hR : els t p = R
  unfold els at hR
  have hcast : ((p : Int) + 1) = ((p + 1 : Nat) : Int) := by omega
  cases hx : cX (bt t (p + 1 : Nat))
  · rw [if_neg (by rw [hx]; decide)] at hR
    have HX : Hid (cX (bt t ((p : Int) + 1)) = false) := hide (by rw [hcast]; exact hx)
    have HR := hide hR
    clear hR hx hcast
    go_enter Tryz.func99, Tryz.ntmps99
    go_wp2_with (first | (go_at_call 87; refine (at_any _ _ _ ht').mono ?_; rintro e w' ⟨rfl, rfl⟩) | (go_at_call 140; refine (isClosing_any _ _).mono ?_; rintro e w' ⟨rfl, rfl⟩; rw [unhide HX]))
    go_loop [5, 6, 7] (fun cv dv iv => ∃ (k c : Nat) (d : Int), k ≤ 2001 ∧ c ≤ k + 1 ∧ -(k : Int) ≤ d ∧ d ≤ (k : Int) + 1 ∧ iv = .int .i64 k ∧ dv = .int .i64 d ∧ cv = .int .i64 c ∧ Hid (R = elD t k d c)) (fun _ _ iv => t.size - (intOf iv).toNat)
    case atStart => exact ⟨p + 1, 1, 1, by omega, by omega, by omega, by omega, by go_num, rfl, rfl, hide (unhide HR).symm⟩
    case round =>
      obtain ⟨k, c, d, hk, hc, hd1, hd2, rfl, rfl, rfl, hr⟩ := hrel
      by_cases hlt : k < t.size
      · by_cases hd : 0 < d
        · have hst := elD_step (c := c) hlt hd
          cases h1 : cO (bt t k)
          · cases h2 : cX (bt t k)
            · have e : dpt (bt t k) d = d := by simp [dpt, h1, h2]
              rw [e] at hst
              have h1' := hide h1; have h2' := hide h2
              by_cases h44 : bt t k = 44
              · have h44' : (bt t k == 44) = true := by simp [h44]
                by_cases hd1 : d = 1
                · have hd1' : (d == 1) = true := by simp [hd1]
                  rw [if_pos ⟨h44, hd1⟩] at hst
                  have HS := hide ((unhide hr).trans hst)
                  clear hst e h1 h2 hr h44
                  go_wp2_with (first | (go_at_call 87; refine (at_any _ _ _ ht').mono ?_; rintro e w' ⟨rfl, rfl⟩) | (go_at_call 92; refine (isOpening_any _ _).mono ?_; rintro e w' ⟨rfl, rfl⟩; rw [unhide h1']) | (go_at_call 140; refine (isClosing_any _ _).mono ?_; rintro e w' ⟨rfl, rfl⟩; rw [unhide h2']))
                  go_round
                  case rel => exact ⟨k + 1, c + 1, d, by omega, by omega, by omega, by omega, by go_num, by rw [hd1], by go_num, HS⟩
                  case measure => simp [intOf]; omega
                · have hd1' : (d == 1) = false := by simp [hd1]
                  rw [if_neg (fun hh => hd1 hh.2)] at hst
                  have HS := hide ((unhide hr).trans hst)
                  clear hst e h1 h2 hr h44
                  go_wp2_with (first | (go_at_call 87; refine (at_any _ _ _ ht').mono ?_; rintro e w' ⟨rfl, rfl⟩) | (go_at_call 92; refine (isOpening_any _ _).mono ?_; rintro e w' ⟨rfl, rfl⟩; rw [unhide h1']) | (go_at_call 140; refine (isClosing_any _ _).mono ?_; rintro e w' ⟨rfl, rfl⟩; rw [unhide h2']))
                  go_round
                  case rel => exact ⟨k + 1, c, d, by omega, by omega, by omega, by omega, by go_num, rfl, rfl, HS⟩
                  case measure => simp [intOf]; omega
              · have h44' : (bt t k == 44) = false := by simp [h44]
                rw [if_neg (fun hh => h44 hh.1)] at hst
                have HS := hide ((unhide hr).trans hst)
                clear hst e h1 h2 hr h44
                go_wp2_with (first | (go_at_call 87; refine (at_any _ _ _ ht').mono ?_; rintro e w' ⟨rfl, rfl⟩) | (go_at_call 92; refine (isOpening_any _ _).mono ?_; rintro e w' ⟨rfl, rfl⟩; rw [unhide h1']) | (go_at_call 140; refine (isClosing_any _ _).mono ?_; rintro e w' ⟨rfl, rfl⟩; rw [unhide h2']))
                go_round
                case rel => exact ⟨k + 1, c, d, by omega, by omega, by omega, by omega, by go_num, rfl, rfl, HS⟩
                case measure => simp [intOf]; omega
            · have e : dpt (bt t k) d = d - 1 := by simp [dpt, h1, h2]
              have h44 : bt t k ≠ 44 := by intro e; rw [e] at h2; revert h2; decide
              have h44' : (bt t k == 44) = false := by simp [h44]
              rw [e, if_neg (fun hh => h44 hh.1)] at hst
              have h1' := hide h1; have h2' := hide h2
              have HS := hide ((unhide hr).trans hst)
              clear hst e h1 h2 hr h44
              go_wp2_with (first | (go_at_call 87; refine (at_any _ _ _ ht').mono ?_; rintro e w' ⟨rfl, rfl⟩) | (go_at_call 92; refine (isOpening_any _ _).mono ?_; rintro e w' ⟨rfl, rfl⟩; rw [unhide h1']) | (go_at_call 140; refine (isClosing_any _ _).mono ?_; rintro e w' ⟨rfl, rfl⟩; rw [unhide h2']))
              go_round
              case rel => exact ⟨k + 1, c, d - 1, by omega, by omega, by omega, by omega, by go_num, rfl, rfl, HS⟩
              case measure => simp [intOf]; omega
          · have e : dpt (bt t k) d = d + 1 := by simp [dpt, h1]
            have h44 : bt t k ≠ 44 := by intro e; rw [e] at h1; revert h1; decide
            have h44' : (bt t k == 44) = false := by simp [h44]
            have h2 : cX (bt t k) = false := by
              cases e : cX (bt t k)
              · rfl
              · have := cX_vals e; have := cO_vals h1; omega
            rw [e, if_neg (fun hh => h44 hh.1)] at hst
            have h1' := hide h1; have h2' := hide h2
            have HS := hide ((unhide hr).trans hst)
            clear hst e h1 h2 hr h44
            go_wp2_with (first | (go_at_call 87; refine (at_any _ _ _ ht').mono ?_; rintro e w' ⟨rfl, rfl⟩) | (go_at_call 92; refine (isOpening_any _ _).mono ?_; rintro e w' ⟨rfl, rfl⟩; rw [unhide h1']) | (go_at_call 140; refine (isClosing_any _ _).mono ?_; rintro e w' ⟨rfl, rfl⟩; rw [unhide h2']))
            go_round
            case rel => exact ⟨k + 1, c, d + 1, by omega, by omega, by omega, by omega, by go_num, rfl, rfl, HS⟩
            case measure => simp [intOf]; omega
        · have HF : Hid (R = c) := hide (by rw [unhide hr, elD_zero (by omega)])
          clear hr
          go_wp2
          go_ret
          exact ⟨ret_int (by rw [unhide HF]), rfl⟩
      · have HF : Hid (R = c) := hide (by rw [unhide hr]; unfold elD; rw [show t.size - k = 0 by omega]; rfl)
        clear hr
        go_wp2
        go_ret
        exact ⟨ret_int (by rw [unhide HF]), rfl⟩
  · rw [if_pos hx] at hR
    have HX : Hid (cX (bt t ((p : Int) + 1)) = true) := hide (by rw [hcast]; exact hx)
    subst hR
    clear hx hcast
    go_enter Tryz.func99, Tryz.ntmps99
    go_wp2_with (first | (go_at_call 87; refine (at_any _ _ _ ht').mono ?_; rintro e w' ⟨rfl, rfl⟩) | (go_at_call 140; refine (isClosing_any _ _).mono ?_; rintro e w' ⟨rfl, rfl⟩; rw [unhide HX]))
    go_ret
    exact ⟨rfl, rfl⟩

set_option maxHeartbeats 400000 in
theorem mostElements_any (t : ByteArray) (w : World) (ht : t.size ≤ 2000) :
    Calls Tryz.prog 55 #[.string t] w fun e w' => e = .returned (.int .i64 (mx t)) ∧ w' = w := by
  generalize hR : mx t = R
  unfold mx at hR
  have HR := hide hR
  clear hR
  go_enter Tryz.func55, Tryz.ntmps55
  go_wp2
  go_loop [3, 4] (fun mv iv => ∃ (k r : Nat), k ≤ t.size ∧ iv = .int .i64 k ∧ mv = .int .i64 r ∧ Hid (R = mxF t (t.size - k) k r)) (fun _ iv => t.size - (intOf iv).toNat)
  case atStart => exact ⟨0, 0, Nat.zero_le _, rfl, rfl, hide (unhide HR).symm⟩
  case round =>
    obtain ⟨k, r, hk, rfl, rfl, hr⟩ := hrel
    by_cases hlt : k < t.size
    · have hb := bt_at t k hlt
      have hst : R = mxF t (t.size - (k + 1)) (k + 1) (if cO (bt t k) = true then max r (els t k) else r) := by
        rw [unhide hr, show t.size - k = t.size - (k + 1) + 1 by omega]; rfl
      cases h1 : cO (bt t k)
      · rw [if_neg (by rw [h1]; decide)] at hst
        rw [hb] at h1
        have h1' := hide h1
        have HS := hide hst
        clear hst h1 hr hb
        go_wp2_with (first | (go_at_call 92; refine (isOpening_any _ _).mono ?_; rintro e w' ⟨rfl, rfl⟩; rw [unhide h1']))
        go_round
        case rel => exact ⟨k + 1, r, by omega, by go_num, rfl, HS⟩
        case measure => simp [intOf]; omega
      · rw [if_pos h1] at hst
        rw [hb] at h1
        have h1' := hide h1
        have HS := hide hst
        clear hst h1 hr hb
        go_wp2_with (first | (go_at_call 92; refine (isOpening_any _ _).mono ?_; rintro e w' ⟨rfl, rfl⟩; rw [unhide h1']) | (go_at_call 99; refine (tElements_any _ _ k _ ht rfl (by omega)).mono ?_; rintro e w' ⟨rfl, rfl⟩) | (go_at_call 98; refine (greater_any _ _ _).mono ?_; rintro e w' ⟨rfl, rfl⟩))
        go_round
        case rel => exact ⟨k + 1, max r (els t k), by omega, by go_num, by go_num, HS⟩
        case measure => simp [intOf]; omega
    · have HF : Hid (R = r) := hide (by rw [unhide hr, show t.size - k = 0 by omega]; rfl)
      clear hr
      go_wp2
      go_ret
      exact ⟨ret_int (by rw [unhide HF]), rfl⟩
end Go.Proofs.YtnfaiaoipeholaaGreatDoor

namespace Go.Proofs.YtnfaiaoipeholaaGreatDoor
open Go.RowKit
section
variable {w : World} {b : Nat} {s t : ByteArray} {m : Int} {P : Nat → Int} {a : Nat} {T : List Int}

set_option maxHeartbeats 400000 in
set_option maxRecDepth 1000000 in
theorem note_any (hm : Mk w b s t m P a T) (hT : T.length ≤ 10000) (q r : Int) (n k : Nat) (hq : q = n) (hr : r = k) (hn : n ≤ 1000) (hk : k ≤ 9) : Calls Tryz.prog 142 #[.pointer (some ⟨b, 0, none⟩), .int .i64 q, .int .i64 r] w fun e w' => e = .returned (.tuple #[]) ∧ Mk w' b s t m P a (T ++ dgt n k) ∧ Below b w w' := by
  subst hq hr
  by_cases h : 1 < n
  · have e : dgt n k = [48 + (k : Int)] := by unfold dgt; rw [if_pos h]
    rw [e]
    clear e
    obtain ⟨v, h1, h2⟩ := hm.tre
    obtain ⟨i1, hi1, hy0, hy1, hy2⟩ := info_parts Tryz.infoByte
    have h3 := hm.trf
    have HM := hide hm
    go_enter Tryz.func142, Tryz.ntmps142
    go_wp2_with (first | (at_builtin; refine wpList_append_lies _ rfl _ _ 83 rfl (b + 1) 5 i1 (.int .u8 0) 1 1 Tryz.underlying83 hi1 hy0 hy1 hy2 rfl (by decide) _ _ _ rfl (h2.alloc _) ⟨_, 0, none⟩ 1 1 [.int .u8 (48 + (k : Int))] rfl rfl ?c1 ?c2 ?c3 ?c4 ?c5 ?c6 _ rfl ?_))
    case c1 => exact World.news_of_block (heap_alloc_new _ _)
    case c2 => intro u hu; simp at hu; subst hu; rfl
    case c3 => omega
    case c4 => unfold maxLen; omega
    case c5 => omega
    case c6 => have := hm.lt; simp; omega
    · intro g1 cap1 w3 hown3 hg3 hb3 hlt3
      have hbel : Below (b + 1) w w3 := ((Below.refl (b + 1) w).alloc (by have := hm.lt; omega) _).grown hg3 (by have := hm.lt; simp; omega) (fun j hj => (h2.lt j hj).1)
      have hc : ∀ o, w3.cell? ⟨b, o, none⟩ = w.cell? ⟨b, o, none⟩ := fun o => hbel.cell (p := ⟨b, o, none⟩) (Nat.lt_succ_self b)
      have hf : ∀ o, w3.frozen? ⟨b, o, none⟩ = w.frozen? ⟨b, o, none⟩ := fun o => hbel.frozen (p := ⟨b, o, none⟩) (Nat.lt_succ_self b)
      have k1 := (hc 30).trans h1
      have k2 := (hf 30).trans h3
      have HC := hide hc; have HF := hide hf; have HO := hide hown3; have HB := hide hbel
      clear hc hf hown3 hbel hg3 hb3
      go_wp2
      go_end0
      refine ⟨rfl, ?_, Below.setCell (B := b) ((unhide HB).mono (Nat.le_succ b)) (p := ⟨b, 30, none⟩) (Nat.le_refl b) _⟩
      have hm := unhide HM
      have ho : ∀ o, o ≠ 30 → (w3.setCell ⟨b, 30, none⟩ (.slice (some ⟨g1, 0, none⟩) (T.length + 1) cap1)).cell? ⟨b, o, none⟩ = w.cell? ⟨b, o, none⟩ := fun o ho => (World.cell?_setCell_other w3 _ _ _ (fun e => ho (by injection e with _ e; exact e.symm))).trans (unhide HC o)
      refine ⟨⟨(ho 0 (by omega)).trans hm.gd.gram, (ho 1 (by omega)).trans hm.gd.most, fun i hi => (ho _ (by omega)).trans (hm.gd.low i hi)⟩, ?_, (ho 28 (by omega)).trans hm.chs, (ho 29 (by omega)).trans hm.tak, by rw [World.frozen?_setCell]; exact (unhide HF 29).trans hm.tkf, ⟨_, World.cell?_setCell_same w3 _ _ k1, ?_⟩, by rw [World.frozen?_setCell]; exact k2⟩
      · have := hm.lt; have := (unhide HB).size; simp; omega
      · rw [byts_push]
        have := own_set (b := b) (o := 30) (u := .slice (some ⟨g1, 0, none⟩) (T.length + 1) cap1) (unhide HO)
        simpa using this
  · have e : dgt n k = [] := by unfold dgt; rw [if_neg h]
    rw [e, List.append_nil]
    clear e
    go_enter Tryz.func142, Tryz.ntmps142
    go_wp2
    go_end0
    exact ⟨rfl, hm, Below.refl _ _⟩
end

/-- what recalling leaves -/
def OutQ (b : Nat) (s t : ByteArray) (m : Nat) (P : Nat → Int) (w : World) (j : Nat) (D : List Int) (e : Ending) (w' : World) : Prop :=
  e = .returned (.tuple #[]) ∧ Mk w' b s t m P j D ∧ Below b w w' ∧ D.length ≤ j
/-- expressions, to this depth -/
def SaidQ (b : Nat) (s t : ByteArray) (m : Nat) (P : Nat → Int) (n : Nat) : Prop :=
  ∀ (q lq : Int) (x l i j h : Nat) (D : List Int) (w : World), Mk w b s t m P i D → q = x → lq = l → x ≤ s.size → l ≤ 9 → (sts s x).length ≤ 10 → pE s t 0 n x i = some (j, h) → h ≤ l → D.length ≤ i →
    Calls Tryz.prog 141 #[.pointer (some ⟨b, 0, none⟩), .int .i64 q, .int .i64 lq] w fun e w' => OutQ b s t m P w j (D ++ dE s t m n l x i) e w'
section
variable {b : Nat} {s t : ByteArray} {m : Nat} {P : Nat → Int}

set_option maxHeartbeats 1000000 in
theorem recallName_any (v : Ev s t m P) (ht : t.size ≤ 2000) {n : Nat} (hE : SaidQ b s t m P n) (lq : Int) (f l i a k : Nat) (D : List Int) (w : World) (hk : Mk w b s t m P (i + 1) D) (hl : lq = l) (hl9 : l ≤ 9) (hf : cN (bt s f) = true)
    (hq : pE s t 0 n (rl s (bt s f) + 2).toNat (i + 2) = some (a, k)) (h41 : bt t a = 41) (hkl : k + 1 ≤ l) (hD : D.length ≤ i) :
    Calls Tryz.prog 100 #[.pointer (some ⟨b, 0, none⟩), .int .u8 (bt s f), .int .i64 lq] w fun e w' => OutQ b s t m P w (a + 1) (D ++ dE s t m n (l - 1) (rl s (bt s f) + 2).toNat (i + 2)) e w' := by
  subst hl
  have hs := v.gram.small
  obtain ⟨j, j1, j2, j3, j4, j5⟩ := name_place v.gram v.ten hf
  have hfw := pE_fwd s t 0 n _ _ a k hq
  have hal := bt_lt (s := t) (p := a) (by omega)
  rw [j5] at hq ⊢
  have c0 := hk.gd.gram
  have c29 := hk.tak
  have f29 := hk.tkf
  generalize hR : dE s t m n (l - 1) (j + 2) (i + 2) = R
  have HR := hide hR
  have HJ := hide j1
  have HQ := hide hq
  have HK := hide (hk.take (i + 2))
  have HB : Hid (∀ u : Value, Below b w (w.setCell ⟨b, 29, none⟩ u)) := hide (fun u => (Below.refl _ _).setCell (p := ⟨b, 29, none⟩) (Nat.le_refl _) u)
  have H4 := hide j4
  clear hR hq hk j1 j4 j5 hf h41
  generalize bt s f = nm at *
  go_enter Tryz.func100, Tryz.ntmps100
  go_wp2_with (first
    | (go_at_call 88; refine (expression_any s _ j _ hs (unhide HJ) j2).mono ?_; rintro e w' ⟨rfl, hw⟩; replace hw := hw.symm; subst hw)
    | (go_at_call 141; refine (hE _ _ (j + 2) (l - 1) (i + 2) a k D _ (unhide HK) (by go_num) (by omega) j3 (by omega) (unhide H4) (unhide HQ) (by omega) (by omega)).mono ?_; rw [unhide HR]; rintro e w2 ⟨rfl, hk2, hb2, hD2⟩; have d29 := hk2.tak; have g29 := hk2.tkf; replace hk2 := hide (hk2.take (a + 1)); replace hb2 := hide hb2))
  go_end0
  exact ⟨rfl, unhide hk2, Below.setCell (B := b) ((unhide HB _).trans (unhide hb2)) (p := ⟨b, 29, none⟩) (Nat.le_refl b) _, by omega⟩


set_option maxHeartbeats 1000000 in
set_option maxRecDepth 1000000 in
theorem recallBracket_any (v : Ev s t m P) (ht : t.size ≤ 2000) {n : Nat} (hE : SaidQ b s t m P n) (q lq : Int) (f l i j h : Nat) (D : List Int) (w : World) (hk : Mk w b s t m P (i + 1) D) (hq : q = f) (hl : lq = l) (hl9 : l ≤ 9) (hf : isF s f = true) (hO : cO (bt s f) = true)
    (hp : pB s t 0 (pE s t 0 n) f (i + 1) = some (j, h)) (hhl : h ≤ l) (hmx : (els t i : Int) ≤ m) (hD : D.length ≤ i) (hit : i < t.size) :
    Calls Tryz.prog 101 #[.pointer (some ⟨b, 0, none⟩), .int .i64 q, .int .i64 lq] w fun e w' => OutQ b s t m P w j (D ++ dB s t m (pE s t 0 n) (dE s t m n) l f (i + 1)) e w' := by
  subst hq hl
  have hs := v.gram.small
  have hs' : s.size ≤ maxLen := by unfold maxLen; omega
  have hm1 := v.hm.1
  have hm5 := v.hm.2
  have hfl := isF_lt hf
  have c0 := hk.gd.gram
  have c28 := hk.chs
  have c29 := hk.tak
  have hce := cnt_eq v (l := l) (f := f) hl9
  have hcb := cnt_bd (s := s) v.hm l f
  obtain ⟨hcb1, hcb2⟩ := hcb
  have hne := els_bracket (i := i) hO hp
  have hfewle : few (bt s f) ≤ nB s t (pE s t 0 n) f (i + 1) := by
    have hx : cX (cC (bt s f)) = true := cX_cC _ (by simpa [cO] using hO)
    unfold pB at hp
    unfold nB few
    split at hp
    · rename_i hh; rw [if_pos hh, if_neg (by omega)]; omega
    · rename_i hh
      rw [if_neg hh]
      have := (pEl_skip (rec := pE s t 0 n (f + 1)) (fun i j h e => pE_skip s t 0 n (f + 1) i j h e) hx _ _ _ _ _ _ hp 1 0 (by omega)).2
      split <;> omega
  have hfew : few (bt s f) ≤ 1 := by unfold few; split <;> omega
  have ht10 := v.ten.sub f hO
  have hRest := Rest.start (s := s) (t := t) (D := D) (l := l) (dr := dE s t m n) (fun i j h e => pE_skip s t 0 n (f + 1) i j h e) hO hp m
  have hjt : j ≤ t.size := (pB_fwd (most := 0) (fun x i => pE_fwd s t 0 n x i) (by simpa [cO] using hO) j h hp).2.1
  generalize hR : D ++ dB s t m (pE s t 0 n) (dE s t m n) l f (i + 1) = R at *
  generalize hC : nB s t (pE s t 0 n) f (i + 1) = C at *
  generalize hcnt : cnt s m l f = N at *
  generalize hFw : few (bt s f) = F at *
  have hdl := dgt_len N (C - F)
  have hC5 : C ≤ 5 := by omega
  have HNE := hide hne
  have HCE := hide hce
  have HFW := hide hFw
  have HRE := hide hRest
  have HK := hide hk
  have H10 := hide ht10
  have HF := hide hf
  have HO := hide hO
  have hw1 : IntKind.i64.wrap (i : Int) = (i : Int) := by simp [IntKind.wrap, IntKind.signed, IntKind.bits]; omega
  clear hR hce hFw hRest hk ht10 hf hO hC hcnt hne hp
  go_enter Tryz.func101, Tryz.ntmps101
  go_wp2_with (first
    | (go_at_call 87; refine (at_any _ _ _ hs').mono ?_; rintro e w' ⟨rfl, hw⟩; replace hw := hw.symm; subst hw))
  go_region_held (fun w' => w'.cell? ⟨b, 28, none⟩ = some (.string t) ∧ w'.cell? ⟨b, 29, none⟩ = some (.int .i64 ((i + 1 : Nat) : Int))) (exact ⟨c28, c29⟩) (first | (go_at_call 99; refine (tElements_any _ _ i _ ht rfl (Nat.le_of_lt hit)).mono ?_; rw [unhide HNE]; rintro e w' ⟨rfl, rfl⟩))
  clear hw1
  have HKd := hide (unhide HK).drew
  have d0 := (unhide HKd).gd.gram
  go_wp2_with (first
    | (go_at_call 138; refine (counts_any v.ten hs _ f m b _ (unhide HKd).gd v.hm rfl (unhide HF) (unhide HO)).mono ?_; rw [unhide HCE]; rintro e w' ⟨rfl, hw⟩; replace hw := hw.symm; subst hw)
    | (go_at_call 93; refine (fewest_any _ _).mono ?_; rw [unhide HFW]; rintro e w' ⟨rfl, hw⟩; replace hw := hw.symm; subst hw)
    | (go_at_call 142; refine (note_any (unhide HKd) (by omega) _ _ N (C - F) rfl (by omega) (by omega) (by omega)).mono ?_; rintro e w1 ⟨rfl, hk1, hb1⟩; replace hk1 := hide hk1; replace hb1 : Hid (Below b w w1) := hide (((Below.refl _ _).drew).trans hb1)))
  generalize hDD : D ++ dgt N (C - F) = DD at *
  have hDDl : DD.length ≤ i + 1 := by rw [← hDD]; simp only [List.length_append]; omega
  clear hDD hdl HK HKd
  go_loopw [9] (fun iv wr => ∃ (k q : Nat) (D1 : List Int), iv = .int .i64 k ∧ k ≤ C ∧ q ≤ t.size ∧ Hid (Mk wr b s t m P q D1) ∧ Hid (Below b w wr) ∧ Hid (Rest t (pE s t 0 n (f + 1)) (dE s t m n l (f + 1)) (cC (bt s f)) j h k C q D1 R) ∧ D1.length ≤ q) (fun iv _ => 30 - (intOf iv).toNat)
  case atStart => exact ⟨0, i + 1, DD, by go_num, Nat.zero_le _, by omega, hk1, hb1, HRE, hDDl⟩
  case round =>
    obtain ⟨k, q, D1, rfl, hkc, hqt, hM, hB, hRe, hD1⟩ := hrel
    have c29' := (unhide hM).tak
    have f29' := (unhide hM).tkf
    by_cases hlt : k < C
    · obtain ⟨a, k', hq1, hk', hRe'⟩ := (unhide hRe).more hlt
      have hfw := pE_fwd s t 0 n _ _ a k' hq1
      by_cases hk0 : k = 0
      · subst hk0
        rw [if_pos rfl] at hq1 hRe' hfw
        have HQ := hide hq1
        have HRe := hide hRe'
        clear hq1 hRe' hRe
        go_wp2_with (go_at_call 141; refine (hE _ _ (f + 1) l q a k' D1 _ (unhide hM) (by go_num) rfl (by omega) hl9 (unhide H10) (unhide HQ) (by omega) hD1).mono ?_; rintro e w2 ⟨rfl, hk2, hb2, hD2⟩; replace hk2 := hide hk2; replace hb2 := hide hb2)
        go_roundw
        case rel => exact ⟨1, a, _, by go_num, by omega, by omega, hk2, hide ((unhide hB).trans (unhide hb2)), HRe, hD2⟩
        case measure => simp [intOf]
      · rw [if_neg hk0] at hq1 hRe' hfw
        have hk0' : decide ((k : Int) > 0) = true := by simp; omega
        have HQ := hide hq1
        have HRe := hide hRe'
        have HT := hide ((unhide hM).take (q + 1))
        have HBs : Hid (∀ u : Value, Below b wr (wr.setCell ⟨b, 29, none⟩ u)) := hide (fun u => (Below.refl _ _).setCell (p := ⟨b, 29, none⟩) (Nat.le_refl _) u)
        clear hq1 hRe' hRe
        go_wp2_with (go_at_call 141; refine (hE _ _ (f + 1) l (q + 1) a k' D1 _ (unhide HT) (by go_num) rfl (by omega) hl9 (unhide H10) (unhide HQ) (by omega) (by omega)).mono ?_; rintro e w2 ⟨rfl, hk2, hb2, hD2⟩; replace hk2 := hide hk2; replace hb2 := hide hb2)
        go_roundw
        case rel => exact ⟨k + 1, a, _, by go_num, by omega, by omega, hk2, hide (((unhide hB).trans (unhide HBs _)).trans (unhide hb2)), HRe, hD2⟩
        case measure => simp [intOf]; omega
    · have hkC : k = C := by omega
      subst hkC
      have hend : q + 1 = j ∧ D1 = R := by
        rcases unhide hRe with ⟨_, a, b⟩ | ⟨a, _⟩
        · exact ⟨a, b⟩
        · omega
      obtain ⟨he1, he2⟩ := hend
      subst he1 he2
      have HT := hide ((unhide hM).take (q + 1))
      clear hRe
      go_wp2
      go_end0
      exact ⟨rfl, unhide HT, Below.setCell (B := b) (unhide hB) (p := ⟨b, 29, none⟩) (Nat.le_refl b) _, by omega⟩
end
end Go.Proofs.YtnfaiaoipeholaaGreatDoor

namespace Go.Proofs.YtnfaiaoipeholaaGreatDoor
open Go.RowKit
section
variable {b : Nat} {s t : ByteArray} {m : Nat} {P : Nat → Int}

set_option maxHeartbeats 1000000 in
theorem recallFactor_any (v : Ev s t m P) (ht : t.size ≤ 2000) (hgd : Good t m 0 t.size) {n : Nat} (hE : SaidQ b s t m P n) (q lq : Int) (f l i j h : Nat) (D : List Int) (w : World) (hk : Mk w b s t m P i D) (hq : q = f) (hl : lq = l) (hl9 : l ≤ 9) (hf : isF s f = true)
    (hp : pF s t 0 (pE s t 0 n) f i = some (j, h)) (hhl : h ≤ l) (hD : D.length ≤ i) :
    Calls Tryz.prog 56 #[.pointer (some ⟨b, 0, none⟩), .int .i64 q, .int .i64 lq] w fun e w' => OutQ b s t m P w j (D ++ dF s t m (pE s t 0 n) (dE s t m n) l f i) e w' := by
  subst hq hl
  have hs := v.gram.small
  have hs' : s.size ≤ maxLen := by unfold maxLen; omega
  have hfl := isF_lt hf
  have c0 := hk.gd.gram
  have c29 := hk.tak
  have f29 := hk.tkf
  have HK := hide (hk.take (i + 1))
  have HB : Hid (∀ u : Value, Below b w (w.setCell ⟨b, 29, none⟩ u)) := hide (fun u => (Below.refl _ _).setCell (p := ⟨b, 29, none⟩) (Nat.le_refl _) u)
  have hnz : bt s f ≠ 0 := by intro e; rw [isF, e] at hf; exact absurd hf (by decide)
  have hp0 := hp
  unfold pF at hp
  split at hp
  · cases hp
  rename_i hbt
  have hbt' : bt t i = bt s f := by omega
  have hit : i < t.size := bt_lt (by omega)
  clear hbt
  cases h2 : cN (bt s f)
  · cases h3 : cO (bt s f)
    · have hL : cL (bt s f) = true := by simpa [isF, h2, h3] using hf
      rw [if_pos hL] at hp
      simp only [Option.some.injEq, Prod.mk.injEq] at hp
      have hR : dF s t m (pE s t 0 n) (dE s t m n) l f i = [] := by unfold dF; rw [if_neg (by simp [h2]), if_neg (by simp [h3])]
      rw [hR, List.append_nil, ← hp.1]
      have h2' := hide h2; have h3' := hide h3
      clear h2 h3 hR hp hp0 hk hL hf hbt' hgd
      go_enter Tryz.func56, Tryz.ntmps56
      go_wp2_with (first
        | (go_at_call 87; refine (at_any _ _ _ hs').mono ?_; rintro e w' ⟨rfl, hw⟩; replace hw := hw.symm; subst hw)
        | (go_at_call 86; refine (isName_any _ _).mono ?_; rw [unhide h2']; rintro e w' ⟨rfl, hw⟩; replace hw := hw.symm; subst hw)
        | (go_at_call 92; refine (isOpening_any _ _).mono ?_; rw [unhide h3']; rintro e w' ⟨rfl, hw⟩; replace hw := hw.symm; subst hw))
      go_end0
      exact ⟨rfl, unhide HK, unhide HB _, by omega⟩
    · have hL : cL (bt s f) = false := by have := cO_vals h3; simp [cL]; omega
      rw [if_neg (by simp [hL]), if_neg (by simp [h2])] at hp
      have hR : dF s t m (pE s t 0 n) (dE s t m n) l f i = dB s t m (pE s t 0 n) (dE s t m n) l f (i + 1) := by unfold dF; rw [if_neg (by simp [h2]), if_pos h3]
      rw [hR]
      have hmx := hgd i (Nat.zero_le _) hit (by rw [hbt']; exact h3)
      have h2' := hide h2; have h3' := hide h3; have HF := hide hf; have HP := hide hp; have HMX := hide hmx
      generalize hZ : D ++ dB s t m (pE s t 0 n) (dE s t m n) l f (i + 1) = Z
      have HZ := hide hZ
      clear h2 h3 hR hp hp0 hk hL hf hbt' hgd hmx hZ
      go_enter Tryz.func56, Tryz.ntmps56
      go_wp2_with (first
        | (go_at_call 87; refine (at_any _ _ _ hs').mono ?_; rintro e w' ⟨rfl, hw⟩; replace hw := hw.symm; subst hw)
        | (go_at_call 86; refine (isName_any _ _).mono ?_; rw [unhide h2']; rintro e w' ⟨rfl, hw⟩; replace hw := hw.symm; subst hw)
        | (go_at_call 92; refine (isOpening_any _ _).mono ?_; rw [unhide h3']; rintro e w' ⟨rfl, hw⟩; replace hw := hw.symm; subst hw)
        | (go_at_call 101; refine (recallBracket_any v ht hE _ _ f l i j h D _ (unhide HK) rfl rfl hl9 (unhide HF) (unhide h3') (unhide HP) hhl (unhide HMX) hD hit).mono ?_; rw [unhide HZ]; rintro e w2 ⟨rfl, hk2, hb2, hD2⟩; replace hk2 := hide hk2; replace hb2 := hide hb2))
      go_end0
      exact ⟨rfl, unhide hk2, (unhide HB _).trans (unhide hb2), hD2⟩
  · have hL : cL (bt s f) = false := by
      have hv : 65 ≤ bt s f ∧ bt s f ≤ 90 := by simpa [cN] using h2
      simp [cL]; omega
    have h3 : cO (bt s f) = false := by
      have hv : 65 ≤ bt s f ∧ bt s f ≤ 90 := by simpa [cN] using h2
      cases e : cO (bt s f)
      · rfl
      · have := cO_vals e; omega
    rw [if_neg (by simp [hL]), if_pos h2] at hp
    unfold pN at hp
    split at hp
    · cases hp
    cases hq : pE s t 0 n (rl s (bt s f) + 2).toNat (i + 1 + 1) with
    | none => rw [hq] at hp; cases hp
    | some q =>
      obtain ⟨a, k⟩ := q
      rw [hq] at hp
      simp only at hp
      split at hp
      case isFalse => cases hp
      rename_i h41
      simp only [Option.some.injEq, Prod.mk.injEq] at hp
      obtain ⟨hp1, hp2⟩ := hp
      subst hp1
      have hR : dF s t m (pE s t 0 n) (dE s t m n) l f i = dE s t m n (l - 1) (rl s (bt s f) + 2).toNat (i + 2) := by unfold dF; rw [if_pos h2]
      rw [hR]
      generalize hZ : D ++ dE s t m n (l - 1) (rl s (bt s f) + 2).toNat (i + 2) = Z
      have HZ := hide hZ
      have h2' := hide h2; have h3' := hide h3; have HQ := hide hq; have H41 := hide h41
      clear h2 h3 hR hp0 hk hL hf hbt' hgd hZ hq h41
      go_enter Tryz.func56, Tryz.ntmps56
      go_wp2_with (first
        | (go_at_call 87; refine (at_any _ _ _ hs').mono ?_; rintro e w' ⟨rfl, hw⟩; replace hw := hw.symm; subst hw)
        | (go_at_call 86; refine (isName_any _ _).mono ?_; rw [unhide h2']; rintro e w' ⟨rfl, hw⟩; replace hw := hw.symm; subst hw)
        | (go_at_call 92; refine (isOpening_any _ _).mono ?_; rw [unhide h3']; rintro e w' ⟨rfl, hw⟩; replace hw := hw.symm; subst hw)
        | (go_at_call 100; refine (recallName_any v ht hE _ f l i a k D _ (unhide HK) rfl hl9 (unhide h2') (unhide HQ) (unhide H41) (by omega) hD).mono ?_; rw [unhide HZ]; rintro e w2 ⟨rfl, hk2, hb2, hD2⟩; replace hk2 := hide hk2; replace hb2 := hide hb2))
      go_end0
      exact ⟨rfl, unhide hk2, (unhide HB _).trans (unhide hb2), hD2⟩

theorem wayIx_eq (v : Ev s t m P) {l : Nat} (hl : l ≤ 9) (x k : Nat) : wayK s (nmP P (l : Nat)) x k = wayIx s l x k := by
  unfold wayK wayIx; rw [filter_eq v hl]

end
end Go.Proofs.YtnfaiaoipeholaaGreatDoor
