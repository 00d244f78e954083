/- The program counts the elements of lists. -/
import Derived.Test.YtnfaiaoipeholaaPlaces
import Derived.Test.YtnfaiaoipeholaaWnRcm
import Derived.Test.YtnfaiaoipeholaaWnPmk
namespace Go.Proofs.Ytnfaiaoipeholaa
open Go.RowKit
set_option maxHeartbeats 400000 in
theorem tElements_any (t : ByteArray) (q : Int) (p : Nat) (w : World) (ht : t.size ≤ 2000) (hq : q = p) (hp : p ≤ t.size) :
    Calls Try.prog 57 #[.string t, .int .i64 q] w fun e w' => e = .returned (.int .i64 (els t p)) ∧ w' = w := by
  subst hq
  have ht' : t.size ≤ maxLen := by unfold maxLen; omega
  generalize hR : els t p = R
  unfold els at hR
  have hcast : ((p : Int) + 1) = ((p + 1 : Nat) : Int) := by omega
  cases hx : cX (bt t (p + 1 : Nat))
  · rw [if_neg (by rw [hx]; decide)] at hR
    have HX : Hid (cX (bt t ((p : Int) + 1)) = false) := hide (by rw [hcast]; exact hx)
    have HR := hide hR
    clear hR hx hcast
    go_enter Try.func57, Try.ntmps57
    go_wp2_with (first | (go_at_call 52; refine (at_any _ _ _ ht').mono ?_; rintro e w' ⟨rfl, rfl⟩) | (go_at_call 92; refine (isClosing_any _ _).mono ?_; rintro e w' ⟨rfl, rfl⟩; rw [unhide HX]))
    go_loop [5, 6, 7] (fun cv dv iv => ∃ (k c : Nat) (d : Int), k ≤ 2001 ∧ c ≤ k + 1 ∧ -(k : Int) ≤ d ∧ d ≤ (k : Int) + 1 ∧ iv = .int .i64 k ∧ dv = .int .i64 d ∧ cv = .int .i64 c ∧ Hid (R = elD t k d c)) (fun _ _ iv => t.size - (intOf iv).toNat)
    case atStart => exact ⟨p + 1, 1, 1, by omega, by omega, by omega, by omega, by go_num, rfl, rfl, hide (unhide HR).symm⟩
    case round =>
      obtain ⟨k, c, d, hk, hc, hd1, hd2, rfl, rfl, rfl, hr⟩ := hrel
      by_cases hlt : k < t.size
      · by_cases hd : 0 < d
        · have hst := elD_step (c := c) hlt hd
          cases h1 : cO (bt t k)
          · cases h2 : cX (bt t k)
            · have e : dpt (bt t k) d = d := by simp [dpt, h1, h2]
              rw [e] at hst
              have h1' := hide h1; have h2' := hide h2
              by_cases h44 : bt t k = 44
              · have h44' : (bt t k == 44) = true := by simp [h44]
                by_cases hd1 : d = 1
                · have hd1' : (d == 1) = true := by simp [hd1]
                  rw [if_pos ⟨h44, hd1⟩] at hst
                  have HS := hide ((unhide hr).trans hst)
                  clear hst e h1 h2 hr h44
                  go_wp2_with (first | (go_at_call 52; refine (at_any _ _ _ ht').mono ?_; rintro e w' ⟨rfl, rfl⟩) | (go_at_call 55; refine (isOpening_any _ _).mono ?_; rintro e w' ⟨rfl, rfl⟩; rw [unhide h1']) | (go_at_call 92; refine (isClosing_any _ _).mono ?_; rintro e w' ⟨rfl, rfl⟩; rw [unhide h2']))
                  go_round
                  case rel => exact ⟨k + 1, c + 1, d, by omega, by omega, by omega, by omega, by go_num, by rw [hd1], by go_num, HS⟩
                  case measure => simp [intOf]; omega
                · have hd1' : (d == 1) = false := by simp [hd1]
                  rw [if_neg (fun hh => hd1 hh.2)] at hst
                  have HS := hide ((unhide hr).trans hst)
                  clear hst e h1 h2 hr h44
                  go_wp2_with (first | (go_at_call 52; refine (at_any _ _ _ ht').mono ?_; rintro e w' ⟨rfl, rfl⟩) | (go_at_call 55; refine (isOpening_any _ _).mono ?_; rintro e w' ⟨rfl, rfl⟩; rw [unhide h1']) | (go_at_call 92; refine (isClosing_any _ _).mono ?_; rintro e w' ⟨rfl, rfl⟩; rw [unhide h2']))
                  go_round
                  case rel => exact ⟨k + 1, c, d, by omega, by omega, by omega, by omega, by go_num, rfl, rfl, HS⟩
                  case measure => simp [intOf]; omega
              · have h44' : (bt t k == 44) = false := by simp [h44]
                rw [if_neg (fun hh => h44 hh.1)] at hst
                have HS := hide ((unhide hr).trans hst)
                clear hst e h1 h2 hr h44
                go_wp2_with (first | (go_at_call 52; refine (at_any _ _ _ ht').mono ?_; rintro e w' ⟨rfl, rfl⟩) | (go_at_call 55; refine (isOpening_any _ _).mono ?_; rintro e w' ⟨rfl, rfl⟩; rw [unhide h1']) | (go_at_call 92; refine (isClosing_any _ _).mono ?_; rintro e w' ⟨rfl, rfl⟩; rw [unhide h2']))
                go_round
                case rel => exact ⟨k + 1, c, d, by omega, by omega, by omega, by omega, by go_num, rfl, rfl, HS⟩
                case measure => simp [intOf]; omega
            · have e : dpt (bt t k) d = d - 1 := by simp [dpt, h1, h2]
              have h44 : bt t k ≠ 44 := by intro e; rw [e] at h2; revert h2; decide
              have h44' : (bt t k == 44) = false := by simp [h44]
              rw [e, if_neg (fun hh => h44 hh.1)] at hst
              have h1' := hide h1; have h2' := hide h2
              have HS := hide ((unhide hr).trans hst)
              clear hst e h1 h2 hr h44
              go_wp2_with (first | (go_at_call 52; refine (at_any _ _ _ ht').mono ?_; rintro e w' ⟨rfl, rfl⟩) | (go_at_call 55; refine (isOpening_any _ _).mono ?_; rintro e w' ⟨rfl, rfl⟩; rw [unhide h1']) | (go_at_call 92; refine (isClosing_any _ _).mono ?_; rintro e w' ⟨rfl, rfl⟩; rw [unhide h2']))
              go_round
              case rel => exact ⟨k + 1, c, d - 1, by omega, by omega, by omega, by omega, by go_num, rfl, rfl, HS⟩
              case measure => simp [intOf]; omega
          · have e : dpt (bt t k) d = d + 1 := by simp [dpt, h1]
            have h44 : bt t k ≠ 44 := by intro e; rw [e] at h1; revert h1; decide
            have h44' : (bt t k == 44) = false := by simp [h44]
            have h2 : cX (bt t k) = false := by
              cases e : cX (bt t k)
              · rfl
              · have := cX_vals e; have := cO_vals h1; omega
            rw [e, if_neg (fun hh => h44 hh.1)] at hst
            have h1' := hide h1; have h2' := hide h2
            have HS := hide ((unhide hr).trans hst)
            clear hst e h1 h2 hr h44
            go_wp2_with (first | (go_at_call 52; refine (at_any _ _ _ ht').mono ?_; rintro e w' ⟨rfl, rfl⟩) | (go_at_call 55; refine (isOpening_any _ _).mono ?_; rintro e w' ⟨rfl, rfl⟩; rw [unhide h1']) | (go_at_call 92; refine (isClosing_any _ _).mono ?_; rintro e w' ⟨rfl, rfl⟩; rw [unhide h2']))
            go_round
            case rel => exact ⟨k + 1, c, d + 1, by omega, by omega, by omega, by omega, by go_num, rfl, rfl, HS⟩
            case measure => simp [intOf]; omega
        · have HF : Hid (R = c) := hide (by rw [unhide hr, elD_zero (by omega)])
          clear hr
          go_wp2
          go_ret
          exact ⟨ret_int (by rw [unhide HF]), rfl⟩
      · have HF : Hid (R = c) := hide (by rw [unhide hr]; unfold elD; rw [show t.size - k = 0 by omega]; rfl)
        clear hr
        go_wp2
        go_ret
        exact ⟨ret_int (by rw [unhide HF]), rfl⟩
  · rw [if_pos hx] at hR
    have HX : Hid (cX (bt t ((p : Int) + 1)) = true) := hide (by rw [hcast]; exact hx)
    subst hR
    clear hx hcast
    go_enter Try.func57, Try.ntmps57
    go_wp2_with (first | (go_at_call 52; refine (at_any _ _ _ ht').mono ?_; rintro e w' ⟨rfl, rfl⟩) | (go_at_call 92; refine (isClosing_any _ _).mono ?_; rintro e w' ⟨rfl, rfl⟩; rw [unhide HX]))
    go_ret
    exact ⟨rfl, rfl⟩

set_option maxHeartbeats 400000 in
theorem mostElements_any (t : ByteArray) (w : World) (ht : t.size ≤ 2000) :
    Calls Try.prog 32 #[.string t] w fun e w' => e = .returned (.int .i64 (mx t)) ∧ w' = w := by
  generalize hR : mx t = R
  unfold mx at hR
  have HR := hide hR
  clear hR
  go_enter Try.func32, Try.ntmps32
  go_wp2
  go_loop [3, 4] (fun mv iv => ∃ (k r : Nat), k ≤ t.size ∧ iv = .int .i64 k ∧ mv = .int .i64 r ∧ Hid (R = mxF t (t.size - k) k r)) (fun _ iv => t.size - (intOf iv).toNat)
  case atStart => exact ⟨0, 0, Nat.zero_le _, rfl, rfl, hide (unhide HR).symm⟩
  case round =>
    obtain ⟨k, r, hk, rfl, rfl, hr⟩ := hrel
    by_cases hlt : k < t.size
    · have hb := bt_at t k hlt
      have hst : R = mxF t (t.size - (k + 1)) (k + 1) (if cO (bt t k) = true then max r (els t k) else r) := by
        rw [unhide hr, show t.size - k = t.size - (k + 1) + 1 by omega]; rfl
      cases h1 : cO (bt t k)
      · rw [if_neg (by rw [h1]; decide)] at hst
        rw [hb] at h1
        have h1' := hide h1
        have HS := hide hst
        clear hst h1 hr hb
        go_wp2_with (first | (go_at_call 55; refine (isOpening_any _ _).mono ?_; rintro e w' ⟨rfl, rfl⟩; rw [unhide h1']))
        go_round
        case rel => exact ⟨k + 1, r, by omega, by go_num, rfl, HS⟩
        case measure => simp [intOf]; omega
      · rw [if_pos h1] at hst
        rw [hb] at h1
        have h1' := hide h1
        have HS := hide hst
        clear hst h1 hr hb
        go_wp2_with (first | (go_at_call 55; refine (isOpening_any _ _).mono ?_; rintro e w' ⟨rfl, rfl⟩; rw [unhide h1']) | (go_at_call 57; refine (tElements_any _ _ k _ ht rfl (by omega)).mono ?_; rintro e w' ⟨rfl, rfl⟩) | (go_at_call 56; refine (greater_any _ _ _).mono ?_; rintro e w' ⟨rfl, rfl⟩))
        go_round
        case rel => exact ⟨k + 1, max r (els t k), by omega, by go_num, by go_num, HS⟩
        case measure => simp [intOf]; omega
    · have HF : Hid (R = r) := hide (by rw [unhide hr, show t.size - k = 0 by omega]; rfl)
      clear hr
      go_wp2
      go_ret
      exact ⟨ret_int (by rw [unhide HF]), rfl⟩
end Go.Proofs.Ytnfaiaoipeholaa
/- The program's recaller: the walks, by one induction. (In memory it lies as a maker: the tree for the choices, the place for how many were taken.) -/
namespace Go.Proofs.Ytnfaiaoipeholaa
open Go.RowKit
section
variable {w : World} {b : Nat} {s t : ByteArray} {m : Int} {P : Nat → Int} {a : Nat} {T : List Int}

set_option maxHeartbeats 400000 in
set_option maxRecDepth 1000000 in
theorem note_any (hm : Mk w b s t m P a T) (hT : T.length ≤ 10000) (q r : Int) (n k : Nat) (hq : q = n) (hr : r = k) (hn : n ≤ 1000) (hk : k ≤ 9) : Calls Try.prog 95 #[.pointer (some ⟨b, 0, none⟩), .int .i64 q, .int .i64 r] w fun e w' => e = .returned (.tuple #[]) ∧ Mk w' b s t m P a (T ++ dgt n k) ∧ Below b w w' := by
  subst hq hr
  by_cases h : 1 < n
  · have e : dgt n k = [48 + (k : Int)] := by unfold dgt; rw [if_pos h]
    rw [e]
    clear e
    obtain ⟨v, h1, h2⟩ := hm.tre
    obtain ⟨i1, hi1, hy0, hy1, hy2⟩ := info_parts Try.infoByte
    have h3 := hm.trf
    have HM := hide hm
    go_enter Try.func95, Try.ntmps95
    go_wp2_with (first | (at_builtin; refine wpList_append_lies _ rfl _ _ 45 rfl (b + 1) 5 i1 (.int .u8 0) 1 1 Try.underlying45 hi1 hy0 hy1 hy2 rfl (by decide) _ _ _ rfl (h2.alloc _) ⟨_, 0, none⟩ 1 1 [.int .u8 (48 + (k : Int))] rfl rfl ?c1 ?c2 ?c3 ?c4 ?c5 ?c6 _ rfl ?_))
    case c1 => exact World.news_of_block (heap_alloc_new _ _)
    case c2 => intro u hu; simp at hu; subst hu; rfl
    case c3 => omega
    case c4 => unfold maxLen; omega
    case c5 => omega
    case c6 => have := hm.lt; simp; omega
    · intro g1 cap1 w3 hown3 hg3 hb3 hlt3
      have hbel : Below (b + 1) w w3 := ((Below.refl (b + 1) w).alloc (by have := hm.lt; omega) _).grown hg3 (by have := hm.lt; simp; omega) (fun j hj => (h2.lt j hj).1)
      have hc : ∀ o, w3.cell? ⟨b, o, none⟩ = w.cell? ⟨b, o, none⟩ := fun o => hbel.cell (p := ⟨b, o, none⟩) (Nat.lt_succ_self b)
      have hf : ∀ o, w3.frozen? ⟨b, o, none⟩ = w.frozen? ⟨b, o, none⟩ := fun o => hbel.frozen (p := ⟨b, o, none⟩) (Nat.lt_succ_self b)
      have k1 := (hc 30).trans h1
      have k2 := (hf 30).trans h3
      have HC := hide hc; have HF := hide hf; have HO := hide hown3; have HB := hide hbel
      clear hc hf hown3 hbel hg3 hb3
      go_wp2
      go_end0
      refine ⟨rfl, ?_, Below.setCell (B := b) ((unhide HB).mono (Nat.le_succ b)) (p := ⟨b, 30, none⟩) (Nat.le_refl b) _⟩
      have hm := unhide HM
      have ho : ∀ o, o ≠ 30 → (w3.setCell ⟨b, 30, none⟩ (.slice (some ⟨g1, 0, none⟩) (T.length + 1) cap1)).cell? ⟨b, o, none⟩ = w.cell? ⟨b, o, none⟩ := fun o ho => (World.cell?_setCell_other w3 _ _ _ (fun e => ho (by injection e with _ e; exact e.symm))).trans (unhide HC o)
      refine ⟨⟨(ho 0 (by omega)).trans hm.gd.gram, (ho 1 (by omega)).trans hm.gd.most, fun i hi => (ho _ (by omega)).trans (hm.gd.low i hi)⟩, ?_, (ho 28 (by omega)).trans hm.chs, (ho 29 (by omega)).trans hm.tak, by rw [World.frozen?_setCell]; exact (unhide HF 29).trans hm.tkf, ⟨_, World.cell?_setCell_same w3 _ _ k1, ?_⟩, by rw [World.frozen?_setCell]; exact k2⟩
      · have := hm.lt; have := (unhide HB).size; simp; omega
      · rw [byts_push]
        have := own_set (b := b) (o := 30) (u := .slice (some ⟨g1, 0, none⟩) (T.length + 1) cap1) (unhide HO)
        simpa using this
  · have e : dgt n k = [] := by unfold dgt; rw [if_neg h]
    rw [e, List.append_nil]
    clear e
    go_enter Try.func95, Try.ntmps95
    go_wp2
    go_end0
    exact ⟨rfl, hm, Below.refl _ _⟩
end

/-- what recalling leaves -/
def OutQ (b : Nat) (s t : ByteArray) (m : Nat) (P : Nat → Int) (w : World) (j : Nat) (D : List Int) (e : Ending) (w' : World) : Prop :=
  e = .returned (.tuple #[]) ∧ Mk w' b s t m P j D ∧ Below b w w' ∧ D.length ≤ j
/-- expressions, to this depth -/
def SaidQ (b : Nat) (s t : ByteArray) (m : Nat) (P : Nat → Int) (n : Nat) : Prop :=
  ∀ (q lq : Int) (x l i j h : Nat) (D : List Int) (w : World), Mk w b s t m P i D → q = x → lq = l → x ≤ s.size → l ≤ 9 → (sts s x).length ≤ 10 → pE s t 0 n x i = some (j, h) → h ≤ l → D.length ≤ i →
    Calls Try.prog 93 #[.pointer (some ⟨b, 0, none⟩), .int .i64 q, .int .i64 lq] w fun e w' => OutQ b s t m P w j (D ++ dE s t m n l x i) e w'
section
variable {b : Nat} {s t : ByteArray} {m : Nat} {P : Nat → Int}

set_option maxHeartbeats 1000000 in
theorem recallName_any (v : Ev s t m P) (ht : t.size ≤ 2000) {n : Nat} (hE : SaidQ b s t m P n) (lq : Int) (f l i a k : Nat) (D : List Int) (w : World) (hk : Mk w b s t m P (i + 1) D) (hl : lq = l) (hl9 : l ≤ 9) (hf : cN (bt s f) = true)
    (hq : pE s t 0 n (rl s (bt s f) + 2).toNat (i + 2) = some (a, k)) (h41 : bt t a = 41) (hkl : k + 1 ≤ l) (hD : D.length ≤ i) :
    Calls Try.prog 59 #[.pointer (some ⟨b, 0, none⟩), .int .u8 (bt s f), .int .i64 lq] w fun e w' => OutQ b s t m P w (a + 1) (D ++ dE s t m n (l - 1) (rl s (bt s f) + 2).toNat (i + 2)) e w' := by
  subst hl
  have hs := v.gram.small
  obtain ⟨j, j1, j2, j3, j4, j5⟩ := name_place v.gram v.ten hf
  have hfw := pE_fwd s t 0 n _ _ a k hq
  have hal := bt_lt (s := t) (p := a) (by omega)
  rw [j5] at hq ⊢
  have c0 := hk.gd.gram
  have c29 := hk.tak
  have f29 := hk.tkf
  generalize hR : dE s t m n (l - 1) (j + 2) (i + 2) = R
  have HR := hide hR
  have HJ := hide j1
  have HQ := hide hq
  have HK := hide (hk.take (i + 2))
  have HB : Hid (∀ u : Value, Below b w (w.setCell ⟨b, 29, none⟩ u)) := hide (fun u => (Below.refl _ _).setCell (p := ⟨b, 29, none⟩) (Nat.le_refl _) u)
  have H4 := hide j4
  clear hR hq hk j1 j4 j5 hf h41
  generalize bt s f = nm at *
  go_enter Try.func59, Try.ntmps59
  go_wp2_with (first
    | (go_at_call 53; refine (expression_any s _ j _ hs (unhide HJ) j2).mono ?_; rintro e w' ⟨rfl, hw⟩; replace hw := hw.symm; subst hw)
    | (go_at_call 93; refine (hE _ _ (j + 2) (l - 1) (i + 2) a k D _ (unhide HK) (by go_num) (by omega) j3 (by omega) (unhide H4) (unhide HQ) (by omega) (by omega)).mono ?_; rw [unhide HR]; rintro e w2 ⟨rfl, hk2, hb2, hD2⟩; have d29 := hk2.tak; have g29 := hk2.tkf; replace hk2 := hide (hk2.take (a + 1)); replace hb2 := hide hb2))
  go_end0
  exact ⟨rfl, unhide hk2, Below.setCell (B := b) ((unhide HB _).trans (unhide hb2)) (p := ⟨b, 29, none⟩) (Nat.le_refl b) _, by omega⟩


set_option maxHeartbeats 1000000 in
set_option maxRecDepth 1000000 in
theorem recallBracket_any (v : Ev s t m P) (ht : t.size ≤ 2000) {n : Nat} (hE : SaidQ b s t m P n) (q lq : Int) (f l i j h : Nat) (D : List Int) (w : World) (hk : Mk w b s t m P (i + 1) D) (hq : q = f) (hl : lq = l) (hl9 : l ≤ 9) (hf : isF s f = true) (hO : cO (bt s f) = true)
    (hp : pB s t 0 (pE s t 0 n) f (i + 1) = some (j, h)) (hhl : h ≤ l) (hmx : (els t i : Int) ≤ m) (hD : D.length ≤ i) (hit : i < t.size) :
    Calls Try.prog 60 #[.pointer (some ⟨b, 0, none⟩), .int .i64 q, .int .i64 lq] w fun e w' => OutQ b s t m P w j (D ++ dB s t m (pE s t 0 n) (dE s t m n) l f (i + 1)) e w' := by
  subst hq hl
  have hs := v.gram.small
  have hs' : s.size ≤ maxLen := by unfold maxLen; omega
  have hm1 := v.hm.1
  have hm5 := v.hm.2
  have hfl := isF_lt hf
  have c0 := hk.gd.gram
  have c28 := hk.chs
  have c29 := hk.tak
  have hce := cnt_eq v (l := l) (f := f) hl9
  have hcb := cnt_bd (s := s) v.hm l f
  obtain ⟨hcb1, hcb2⟩ := hcb
  have hne := els_bracket (i := i) hO hp
  have hfewle : few (bt s f) ≤ nB s t (pE s t 0 n) f (i + 1) := by
    have hx : cX (cC (bt s f)) = true := cX_cC _ (by simpa [cO] using hO)
    unfold pB at hp
    unfold nB few
    split at hp
    · rename_i hh; rw [if_pos hh, if_neg (by omega)]; omega
    · rename_i hh
      rw [if_neg hh]
      have := (pEl_skip (rec := pE s t 0 n (f + 1)) (fun i j h e => pE_skip s t 0 n (f + 1) i j h e) hx _ _ _ _ _ _ hp 1 0 (by omega)).2
      split <;> omega
  have hfew : few (bt s f) ≤ 1 := by unfold few; split <;> omega
  have ht10 := v.ten.sub f hO
  have hRest := Rest.start (s := s) (t := t) (D := D) (l := l) (dr := dE s t m n) (fun i j h e => pE_skip s t 0 n (f + 1) i j h e) hO hp m
  have hjt : j ≤ t.size := (pB_fwd (most := 0) (fun x i => pE_fwd s t 0 n x i) (by simpa [cO] using hO) j h hp).2.1
  generalize hR : D ++ dB s t m (pE s t 0 n) (dE s t m n) l f (i + 1) = R at *
  generalize hC : nB s t (pE s t 0 n) f (i + 1) = C at *
  generalize hcnt : cnt s m l f = N at *
  generalize hFw : few (bt s f) = F at *
  have hdl := dgt_len N (C - F)
  have hC5 : C ≤ 5 := by omega
  have HNE := hide hne
  have HCE := hide hce
  have HFW := hide hFw
  have HRE := hide hRest
  have HK := hide hk
  have H10 := hide ht10
  have HF := hide hf
  have HO := hide hO
  have hw1 : IntKind.i64.wrap (i : Int) = (i : Int) := by simp [IntKind.wrap, IntKind.signed, IntKind.bits]; omega
  clear hR hce hFw hRest hk ht10 hf hO hC hcnt hne hp
  go_enter Try.func60, Try.ntmps60
  go_wp2_with (first
    | (go_at_call 52; refine (at_any _ _ _ hs').mono ?_; rintro e w' ⟨rfl, hw⟩; replace hw := hw.symm; subst hw))
  go_region_held (fun w' => w'.cell? ⟨b, 28, none⟩ = some (.string t) ∧ w'.cell? ⟨b, 29, none⟩ = some (.int .i64 ((i + 1 : Nat) : Int))) (exact ⟨c28, c29⟩) (first | (go_at_call 57; refine (tElements_any _ _ i _ ht rfl (Nat.le_of_lt hit)).mono ?_; rw [unhide HNE]; rintro e w' ⟨rfl, rfl⟩))
  clear hw1
  have HKd := hide (unhide HK).drew
  have d0 := (unhide HKd).gd.gram
  go_wp2_with (first
    | (go_at_call 94; refine (counts_any v.ten hs _ f m b _ (unhide HKd).gd v.hm rfl (unhide HF) (unhide HO)).mono ?_; rw [unhide HCE]; rintro e w' ⟨rfl, hw⟩; replace hw := hw.symm; subst hw)
    | (go_at_call 62; refine (fewest_any _ _).mono ?_; rw [unhide HFW]; rintro e w' ⟨rfl, hw⟩; replace hw := hw.symm; subst hw)
    | (go_at_call 95; refine (note_any (unhide HKd) (by omega) _ _ N (C - F) rfl (by omega) (by omega) (by omega)).mono ?_; rintro e w1 ⟨rfl, hk1, hb1⟩; replace hk1 := hide hk1; replace hb1 : Hid (Below b w w1) := hide (((Below.refl _ _).drew).trans hb1)))
  generalize hDD : D ++ dgt N (C - F) = DD at *
  have hDDl : DD.length ≤ i + 1 := by rw [← hDD]; simp only [List.length_append]; omega
  clear hDD hdl HK HKd
  go_loopw [9] (fun iv wr => ∃ (k q : Nat) (D1 : List Int), iv = .int .i64 k ∧ k ≤ C ∧ q ≤ t.size ∧ Hid (Mk wr b s t m P q D1) ∧ Hid (Below b w wr) ∧ Hid (Rest t (pE s t 0 n (f + 1)) (dE s t m n l (f + 1)) (cC (bt s f)) j h k C q D1 R) ∧ D1.length ≤ q) (fun iv _ => 30 - (intOf iv).toNat)
  case atStart => exact ⟨0, i + 1, DD, by go_num, Nat.zero_le _, by omega, hk1, hb1, HRE, hDDl⟩
  case round =>
    obtain ⟨k, q, D1, rfl, hkc, hqt, hM, hB, hRe, hD1⟩ := hrel
    have c29' := (unhide hM).tak
    have f29' := (unhide hM).tkf
    by_cases hlt : k < C
    · obtain ⟨a, k', hq1, hk', hRe'⟩ := (unhide hRe).more hlt
      have hfw := pE_fwd s t 0 n _ _ a k' hq1
      by_cases hk0 : k = 0
      · subst hk0
        rw [if_pos rfl] at hq1 hRe' hfw
        have HQ := hide hq1
        have HRe := hide hRe'
        clear hq1 hRe' hRe
        go_wp2_with (go_at_call 93; refine (hE _ _ (f + 1) l q a k' D1 _ (unhide hM) (by go_num) rfl (by omega) hl9 (unhide H10) (unhide HQ) (by omega) hD1).mono ?_; rintro e w2 ⟨rfl, hk2, hb2, hD2⟩; replace hk2 := hide hk2; replace hb2 := hide hb2)
        go_roundw
        case rel => exact ⟨1, a, _, by go_num, by omega, by omega, hk2, hide ((unhide hB).trans (unhide hb2)), HRe, hD2⟩
        case measure => simp [intOf]
      · rw [if_neg hk0] at hq1 hRe' hfw
        have hk0' : decide ((k : Int) > 0) = true := by simp; omega
        have HQ := hide hq1
        have HRe := hide hRe'
        have HT := hide ((unhide hM).take (q + 1))
        have HBs : Hid (∀ u : Value, Below b wr (wr.setCell ⟨b, 29, none⟩ u)) := hide (fun u => (Below.refl _ _).setCell (p := ⟨b, 29, none⟩) (Nat.le_refl _) u)
        clear hq1 hRe' hRe
        go_wp2_with (go_at_call 93; refine (hE _ _ (f + 1) l (q + 1) a k' D1 _ (unhide HT) (by go_num) rfl (by omega) hl9 (unhide H10) (unhide HQ) (by omega) (by omega)).mono ?_; rintro e w2 ⟨rfl, hk2, hb2, hD2⟩; replace hk2 := hide hk2; replace hb2 := hide hb2)
        go_roundw
        case rel => exact ⟨k + 1, a, _, by go_num, by omega, by omega, hk2, hide (((unhide hB).trans (unhide HBs _)).trans (unhide hb2)), HRe, hD2⟩
        case measure => simp [intOf]; omega
    · have hkC : k = C := by omega
      subst hkC
      have hend : q + 1 = j ∧ D1 = R := by
        rcases unhide hRe with ⟨_, a, b⟩ | ⟨a, _⟩
        · exact ⟨a, b⟩
        · omega
      obtain ⟨he1, he2⟩ := hend
      subst he1 he2
      have HT := hide ((unhide hM).take (q + 1))
      clear hRe
      go_wp2
      go_end0
      exact ⟨rfl, unhide HT, Below.setCell (B := b) (unhide hB) (p := ⟨b, 29, none⟩) (Nat.le_refl b) _, by omega⟩
end
end Go.Proofs.Ytnfaiaoipeholaa
/- The program's recaller: factors, expressions. -/
namespace Go.Proofs.Ytnfaiaoipeholaa
open Go.RowKit
section
variable {b : Nat} {s t : ByteArray} {m : Nat} {P : Nat → Int}

set_option maxHeartbeats 1000000 in
theorem recallFactor_any (v : Ev s t m P) (ht : t.size ≤ 2000) (hgd : Good t m 0 t.size) {n : Nat} (hE : SaidQ b s t m P n) (q lq : Int) (f l i j h : Nat) (D : List Int) (w : World) (hk : Mk w b s t m P i D) (hq : q = f) (hl : lq = l) (hl9 : l ≤ 9) (hf : isF s f = true)
    (hp : pF s t 0 (pE s t 0 n) f i = some (j, h)) (hhl : h ≤ l) (hD : D.length ≤ i) :
    Calls Try.prog 34 #[.pointer (some ⟨b, 0, none⟩), .int .i64 q, .int .i64 lq] w fun e w' => OutQ b s t m P w j (D ++ dF s t m (pE s t 0 n) (dE s t m n) l f i) e w' := by
  subst hq hl
  have hs := v.gram.small
  have hs' : s.size ≤ maxLen := by unfold maxLen; omega
  have hfl := isF_lt hf
  have c0 := hk.gd.gram
  have c29 := hk.tak
  have f29 := hk.tkf
  have HK := hide (hk.take (i + 1))
  have HB : Hid (∀ u : Value, Below b w (w.setCell ⟨b, 29, none⟩ u)) := hide (fun u => (Below.refl _ _).setCell (p := ⟨b, 29, none⟩) (Nat.le_refl _) u)
  have hnz : bt s f ≠ 0 := by intro e; rw [isF, e] at hf; exact absurd hf (by decide)
  have hp0 := hp
  unfold pF at hp
  split at hp
  · cases hp
  rename_i hbt
  have hbt' : bt t i = bt s f := by omega
  have hit : i < t.size := bt_lt (by omega)
  clear hbt
  cases h2 : cN (bt s f)
  · cases h3 : cO (bt s f)
    · have hL : cL (bt s f) = true := by simpa [isF, h2, h3] using hf
      rw [if_pos hL] at hp
      simp only [Option.some.injEq, Prod.mk.injEq] at hp
      have hR : dF s t m (pE s t 0 n) (dE s t m n) l f i = [] := by unfold dF; rw [if_neg (by simp [h2]), if_neg (by simp [h3])]
      rw [hR, List.append_nil, ← hp.1]
      have h2' := hide h2; have h3' := hide h3
      clear h2 h3 hR hp hp0 hk hL hf hbt' hgd
      go_enter Try.func34, Try.ntmps34
      go_wp2_with (first
        | (go_at_call 52; refine (at_any _ _ _ hs').mono ?_; rintro e w' ⟨rfl, hw⟩; replace hw := hw.symm; subst hw)
        | (go_at_call 51; refine (isName_any _ _).mono ?_; rw [unhide h2']; rintro e w' ⟨rfl, hw⟩; replace hw := hw.symm; subst hw)
        | (go_at_call 55; refine (isOpening_any _ _).mono ?_; rw [unhide h3']; rintro e w' ⟨rfl, hw⟩; replace hw := hw.symm; subst hw))
      go_end0
      exact ⟨rfl, unhide HK, unhide HB _, by omega⟩
    · have hL : cL (bt s f) = false := by have := cO_vals h3; simp [cL]; omega
      rw [if_neg (by simp [hL]), if_neg (by simp [h2])] at hp
      have hR : dF s t m (pE s t 0 n) (dE s t m n) l f i = dB s t m (pE s t 0 n) (dE s t m n) l f (i + 1) := by unfold dF; rw [if_neg (by simp [h2]), if_pos h3]
      rw [hR]
      have hmx := hgd i (Nat.zero_le _) hit (by rw [hbt']; exact h3)
      have h2' := hide h2; have h3' := hide h3; have HF := hide hf; have HP := hide hp; have HMX := hide hmx
      generalize hZ : D ++ dB s t m (pE s t 0 n) (dE s t m n) l f (i + 1) = Z
      have HZ := hide hZ
      clear h2 h3 hR hp hp0 hk hL hf hbt' hgd hmx hZ
      go_enter Try.func34, Try.ntmps34
      go_wp2_with (first
        | (go_at_call 52; refine (at_any _ _ _ hs').mono ?_; rintro e w' ⟨rfl, hw⟩; replace hw := hw.symm; subst hw)
        | (go_at_call 51; refine (isName_any _ _).mono ?_; rw [unhide h2']; rintro e w' ⟨rfl, hw⟩; replace hw := hw.symm; subst hw)
        | (go_at_call 55; refine (isOpening_any _ _).mono ?_; rw [unhide h3']; rintro e w' ⟨rfl, hw⟩; replace hw := hw.symm; subst hw)
        | (go_at_call 60; refine (recallBracket_any v ht hE _ _ f l i j h D _ (unhide HK) rfl rfl hl9 (unhide HF) (unhide h3') (unhide HP) hhl (unhide HMX) hD hit).mono ?_; rw [unhide HZ]; rintro e w2 ⟨rfl, hk2, hb2, hD2⟩; replace hk2 := hide hk2; replace hb2 := hide hb2))
      go_end0
      exact ⟨rfl, unhide hk2, (unhide HB _).trans (unhide hb2), hD2⟩
  · have hL : cL (bt s f) = false := by
      have hv : 65 ≤ bt s f ∧ bt s f ≤ 90 := by simpa [cN] using h2
      simp [cL]; omega
    have h3 : cO (bt s f) = false := by
      have hv : 65 ≤ bt s f ∧ bt s f ≤ 90 := by simpa [cN] using h2
      cases e : cO (bt s f)
      · rfl
      · have := cO_vals e; omega
    rw [if_neg (by simp [hL]), if_pos h2] at hp
    unfold pN at hp
    split at hp
    · cases hp
    cases hq : pE s t 0 n (rl s (bt s f) + 2).toNat (i + 1 + 1) with
    | none => rw [hq] at hp; cases hp
    | some q =>
      obtain ⟨a, k⟩ := q
      rw [hq] at hp
      simp only at hp
      split at hp
      case isFalse => cases hp
      rename_i h41
      simp only [Option.some.injEq, Prod.mk.injEq] at hp
      obtain ⟨hp1, hp2⟩ := hp
      subst hp1
      have hR : dF s t m (pE s t 0 n) (dE s t m n) l f i = dE s t m n (l - 1) (rl s (bt s f) + 2).toNat (i + 2) := by unfold dF; rw [if_pos h2]
      rw [hR]
      generalize hZ : D ++ dE s t m n (l - 1) (rl s (bt s f) + 2).toNat (i + 2) = Z
      have HZ := hide hZ
      have h2' := hide h2; have h3' := hide h3; have HQ := hide hq; have H41 := hide h41
      clear h2 h3 hR hp0 hk hL hf hbt' hgd hZ hq h41
      go_enter Try.func34, Try.ntmps34
      go_wp2_with (first
        | (go_at_call 52; refine (at_any _ _ _ hs').mono ?_; rintro e w' ⟨rfl, hw⟩; replace hw := hw.symm; subst hw)
        | (go_at_call 51; refine (isName_any _ _).mono ?_; rw [unhide h2']; rintro e w' ⟨rfl, hw⟩; replace hw := hw.symm; subst hw)
        | (go_at_call 55; refine (isOpening_any _ _).mono ?_; rw [unhide h3']; rintro e w' ⟨rfl, hw⟩; replace hw := hw.symm; subst hw)
        | (go_at_call 59; refine (recallName_any v ht hE _ f l i a k D _ (unhide HK) rfl hl9 (unhide h2') (unhide HQ) (unhide H41) (by omega) hD).mono ?_; rw [unhide HZ]; rintro e w2 ⟨rfl, hk2, hb2, hD2⟩; replace hk2 := hide hk2; replace hb2 := hide hb2))
      go_end0
      exact ⟨rfl, unhide hk2, (unhide HB _).trans (unhide hb2), hD2⟩

theorem wayIx_eq (v : Ev s t m P) {l : Nat} (hl : l ≤ 9) (x k : Nat) : wayK s (nmP P (l : Nat)) x k = wayIx s l x k := by
  unfold wayK wayIx; rw [filter_eq v hl]

end
end Go.Proofs.Ytnfaiaoipeholaa
/- The program's recaller: an expression; all depths. -/
namespace Go.Proofs.Ytnfaiaoipeholaa
open Go.RowKit
section
variable {b : Nat} {s t : ByteArray} {m : Nat} {P : Nat → Int}

set_option maxHeartbeats 300000 in
set_option maxRecDepth 1000000 in
theorem recallExpression_any (v : Ev s t m P) (ht : t.size ≤ 2000) (hgd : Good t m 0 t.size) {n : Nat} (hE : SaidQ b s t m P n) : SaidQ b s t m P (n + 1) := by
  intro q lq x l i j h D w hk hq hl hx hl9 h10 hp hhl hD
  subst hq hl
  have hs := v.gram.small
  have hX : SaidG s m P (l : Nat) (s.size + 1) := expressionFits_all v.ten hs _
  obtain ⟨k, a, hbk, hk9, hka, hpf⟩ := pE_parts hp
  have hmem := pE_mem hka hpf hhl
  have hklen := hmem.1
  clear hmem
  have hit : i < t.size := bt_lt (by omega)
  have hfwd := pE_fwd s t 0 (n + 1) x i j h hp
  have hw1 : wayK s (nmP P (l : Nat)) x (min 10 (sts s x).length) = (fitL s l x).length := by rw [Nat.min_eq_right h10, ways_eq v hl9]
  have hw2 : wayK s (nmP P (l : Nat)) x (min k (sts s x).length) = wayIx s l x k := by rw [Nat.min_eq_left (by omega), wayIx_eq v hl9]
  have hwle := wayIx_le s l x k
  have hLle := fitL_len s l x
  have hya : x ≤ a ∧ a ≤ 302 := by have := ap_bd hka; omega
  obtain ⟨hxa, ha302⟩ := hya
  have hL10 : (fitL s l x).length ≤ 10 := by omega
  obtain ⟨hij, hjt, _⟩ := hfwd
  have HGD := hide hgd
  generalize hR : D ++ dE s t m (n + 1) l x i = R
  unfold dE at hR
  rw [show (bt t i - 48).toNat = k by omega, hka] at hR
  simp only at hR
  have c28 := hk.chs
  have c29 := hk.tak
  have f29 := hk.tkf
  have hdl := dgt_len (fitL s l x).length (wayIx s l x k)
  generalize (fitL s l x).length = L at *
  generalize wayIx s l x k = W at *
  have hcD : Hid (cD (48 + (k : Int)) = true) := hide (by simp [cD]; omega)
  have HBK := hide hbk
  have HW1 := hide hw1
  have HW2 := hide hw2
  have HAP : Hid (pl (ap s k x) = (a : Int)) := hide (by rw [hka]; rfl)
  have HR := hide hR
  have HPF := hide hpf
  have HT : Hid (Mk (w.setCell ⟨b, 29, none⟩ (.int .i64 ((i : Int) + 1))).drew b s t m P (i + 1) D) := hide (by
    have h := (hk.take (i + 1)).drew
    rw [show ((i + 1 : Nat) : Int) = (i : Int) + 1 by omega] at h; exact h)
  have HBs : Hid (Below b w (w.setCell ⟨b, 29, none⟩ (.int .i64 ((i : Int) + 1))).drew) := hide (((Below.refl _ _).setCell (p := ⟨b, 29, none⟩) (Nat.le_refl _) _).drew)
  have ht' : t.size ≤ maxLen := by unfold maxLen; omega
  have HX := hide hX
  clear hR hka hpf hw1 hw2 hp hk h10 hklen hbk hLle hgd hX
  go_enter Try.func93, Try.ntmps93
  go_wp2_with fail
  go_region_held (fun w' => w'.cell? ⟨b, 28, none⟩ = some (.string t) ∧ w'.cell? ⟨b, 29, none⟩ = some (.int .i64 (i : Int))) (exact ⟨c28, c29⟩) (first | (go_at_call 52; refine (at_any _ _ _ ht').mono ?_; rw [unhide HBK]; rintro e w' ⟨rfl, rfl⟩))
  have c29' : w.drew.cell? ⟨b, 29, none⟩ = some (.int .i64 (i : Int)) := c29
  have f29' : w.drew.frozen? ⟨b, 29, none⟩ = false := f29
  clear c28 c29 f29
  have hk48 : (48 + (k : Int)) - 48 = k := by omega
  go_wp2_with (first
    | (go_at_call 61; refine (isDigit_any _ _).mono ?_; rw [unhide hcD]; rintro e w' ⟨rfl, hw⟩; replace hw := hw.symm; subst hw)
    | fail)
  have hc0 := (unhide HT).gd.gram
  generalize (w.setCell ⟨b, 29, none⟩ (.int .i64 ((i : Int) + 1))).drew = w1 at *
  clear c29' f29' hk48
  refine (alternatives_any v.ten hs (unhide HX) _ _ x 10 b _ (unhide HT).gd rfl (by omega) rfl (by omega) (by omega)).mono ?_
  rw [unhide HW1]
  rintro e w' ⟨rfl, hw⟩
  replace hw := hw.symm; subst hw
  go_wp2_with fail
  refine (alternatives_any v.ten hs (unhide HX) _ _ x k b _ (unhide HT).gd rfl (by omega) rfl (by omega) (by omega)).mono ?_
  rw [unhide HW2]
  rintro e w' ⟨rfl, hw⟩
  replace hw := hw.symm; subst hw
  go_wp2_with fail
  refine (note_any (unhide HT) (by omega) _ _ L W rfl rfl (by omega) (by omega)).mono ?_
  rintro e w2 ⟨rfl, hk2, hb2⟩
  have c2 := hk2.gd.gram
  have HK2 := hide hk2
  have HB2 := hide ((unhide HBs).trans hb2)
  have hD2 : (D ++ dgt L W).length ≤ i + 1 := by simp only [List.length_append]; omega
  generalize hDD : D ++ dgt L W = DD at *
  have HRR : Hid (R = DD ++ dFs (pF s t 0 (pE s t 0 n)) (dF s t m (pE s t 0 n) (dE s t m n) l) (fe s a).1 (i + 1)) := hide (by rw [← unhide HR, ← hDD]; simp)
  clear hk2 hb2 hdl hDD HT HBs HR hc0
  go_wp2_with (first
    | (go_at_call 113; refine (alternative_any s _ _ x k _ hs rfl rfl (by omega) (by omega)).mono ?_; rw [unhide HAP]; rintro e w' ⟨rfl, hw⟩; replace hw := hw.symm; subst hw)
    | fail)
  go_loopw [10] (fun fv wr => ∃ (k1 i1 top : Nat) (D1 : List Int), fv = .int .i64 k1 ∧ x ≤ k1 ∧ k1 ≤ 302 ∧ Hid (Mk wr b s t m P i1 D1) ∧ Hid (Below b w wr) ∧ Hid (pFs (pF s t 0 (pE s t 0 n)) (fe s k1).1 i1 top = some (j, h)) ∧ Hid (R = D1 ++ dFs (pF s t 0 (pE s t 0 n)) (dF s t m (pE s t 0 n) (dE s t m n) l) (fe s k1).1 i1) ∧ D1.length ≤ i1) (fun fv _ => s.size - (intOf fv).toNat)
  case atStart => exact ⟨a, i + 1, 0, DD, rfl, hxa, ha302, HK2, HB2, HPF, HRR, hD2⟩
  case round =>
    obtain ⟨k1, i1, top, D1, rfl, hxk, hk302, hM, hB, hPp, hRe, hD1⟩ := hrel
    have c3 := (unhide hM).gd.gram
    cases h1 : isF s k1
    · have hend : i1 = j ∧ D1 = R := by
        have h := unhide hRe
        have h' := unhide hPp
        rw [fe_no h1] at h h'
        simp only [pFs, Option.some.injEq, Prod.mk.injEq] at h'
        exact ⟨h'.1, by rw [h]; simp [dFs]⟩
      obtain ⟨he1, he2⟩ := hend
      subst he1 he2
      have h1' := hide h1; clear h1
      go_wp2_with (go_at_call 115; refine (isFactor_any _ _ k1 _ hs rfl).mono ?_; rw [unhide h1']; rintro e w' ⟨rfl, hw⟩; replace hw := hw.symm; subst hw)
      go_end0
      exact ⟨rfl, unhide hM, unhide hB, hD1⟩
    · have hbb := bh_bd h1
      have hkl := isF_lt h1
      have hP := unhide hPp
      have hR2 := unhide hRe
      rw [fe_yes h1] at hP hR2
      have htop := (pFs_parts _ _ _ _ _ hP).2 k1 (by simp)
      cases hq1 : pF s t 0 (pE s t 0 n) k1 i1 with
      | none => unfold pFs at hP; rw [hq1] at hP; cases hP
      | some q1 =>
        obtain ⟨a1, kk⟩ := q1
        have hP2 : pFs (pF s t 0 (pE s t 0 n)) (fe s (bh s k1)).1 a1 (max top kk) = some (j, h) := by unfold pFs at hP; rw [hq1] at hP; exact hP
        have hkk : kk ≤ l := by have := (pFs_parts _ _ _ _ _ hP2).1; omega
        have HR2 : Hid (R = (D1 ++ dF s t m (pE s t 0 n) (dE s t m n) l k1 i1) ++ dFs (pF s t 0 (pE s t 0 n)) (dF s t m (pE s t 0 n) (dE s t m n) l) (fe s (bh s k1)).1 a1) := hide (by
          rw [hR2]; simp only [dFs, hq1]; simp)
        have HP2 := hide hP2
        have HQ1 := hide hq1
        have h1' := hide h1
        clear h1 hP hR2 htop hq1 hP2 hPp hRe
        go_wp2_with (first
          | (go_at_call 115; refine (isFactor_any _ _ k1 _ hs rfl).mono ?_; rw [unhide h1']; rintro e w' ⟨rfl, hw⟩; replace hw := hw.symm; subst hw)
          | (go_at_call 34; refine (recallFactor_any v ht (unhide HGD) hE _ _ k1 l i1 a1 kk D1 _ (unhide hM) rfl rfl hl9 (unhide h1') (unhide HQ1) hkk hD1).mono ?_; rintro e w4 ⟨rfl, hk4, hb4, hD4⟩; replace hk4 := hide hk4; replace hb4 := hide hb4; have c4 := (unhide hk4).gd.gram)
          | (go_at_call 116; refine (behind_any _ _ k1 _ hs rfl (by omega)).mono ?_; rintro e w' ⟨rfl, hw⟩; replace hw := hw.symm; subst hw))
        go_roundw
        case rel => exact ⟨bh s k1, a1, max top kk, _, rfl, by omega, by omega, hk4, hide ((unhide hB).trans (unhide hb4)), HP2, HR2, hD4⟩
        case measure => simp [intOf]; omega
theorem recallExpression_all (v : Ev s t m P) (ht : t.size ≤ 2000) (hgd : Good t m 0 t.size) : ∀ n, SaidQ b s t m P n
  | 0 => fun _ _ _ _ _ _ _ _ _ _ _ _ _ _ _ hp _ _ => by cases hp
  | n + 1 => recallExpression_any v ht hgd (recallExpression_all v ht hgd n)
end
end Go.Proofs.Ytnfaiaoipeholaa
/- The program's Recall. -/
namespace Go.Proofs.Ytnfaiaoipeholaa
open Go.RowKit
theorem Try.infoRec : (Try.prog.info? 55).map (·.size) = some 31 := by kernel_rfl
theorem Try.builtRec (s c : ByteArray) (m : Int) (P : Nat → Int) : Try.prog.built 55 [(0, .agg (gds s m P).toArray), (1, .string c)] = some (mks s c m P).toArray := by kernel_rfl
theorem conv_any {w : World} {b : Nat} {s c : ByteArray} {m : Int} {P : Nat → Int} {a : Nat} {T : List Int} (hk : Mk w b s c m P a T) :
    ∃ ao cap, w.cell? ⟨b, 30, none⟩ = some (.slice ao T.length cap) ∧ (convert 45 9 (.slice ao T.length cap)).run Try.prog w = .ok (.string (strOfNums T)) w := by
  obtain ⟨v, h1, h2⟩ := hk.tre
  rcases h2.2 with ⟨e, h0⟩ | ⟨g, cap, cur, e, _⟩
  · subst e
    have hT : T = [] := List.length_eq_zero_iff.1 h0
    subst hT
    refine ⟨none, 0, h1, ?_⟩
    have := run_convert_bytes_nil (P := Try.prog) (w := w) 45 5 Try.underlying45 Try.underlying5 0 0 9 Try.underlying9
    exact this
  · subst e
    refine ⟨some ⟨g, 0, none⟩, cap, h1, run_convert_bytes_arg _ 45 5 Try.underlying45 Try.underlying5 g 0 T.length cap T rfl (fun i hi => ?_) _ Try.underlying9⟩
    rw [Nat.zero_add, h2.cellAt i (by omega)]
    unfold byts
    rw [List.getElem?_map, List.getElem?_eq_getElem hi, List.getD_eq_getElem?_getD, List.getElem?_eq_getElem hi]; rfl
theorem whole_parts {s t : ByteArray} {hh : Nat} (e : whole s t 0 = some hh) : t.size ≤ 2000 ∧ pF s t 0 (pE s t 0 (t.size + 1)) 0 0 = some (t.size, hh) := by
  unfold whole at e
  split at e
  · cases e
  · refine ⟨by omega, ?_⟩
    cases hq : pF s t 0 (pE s t 0 (t.size + 1)) 0 0 with
    | none => rw [hq] at e; cases e
    | some q =>
      obtain ⟨j, k⟩ := q
      rw [hq] at e
      simp only at e
      split at e
      · rename_i hj
        simp only [Option.some.injEq] at e
        rw [hj, e]
      · cases e

set_option maxHeartbeats 1000000 in
set_option maxRecDepth 1000000 in
theorem pRecall_ok {s t : ByteArray} (g : Gram s) (ten : Ten s) (h m hh : Nat) (w : World) (hw0 : whole s t 0 = some hh) (hl : 1 ≤ h ∧ h ≤ 9) (hm : 1 ≤ m ∧ m ≤ 5) (hhh : hh ≤ h) (hmx : (mx t : Int) ≤ m) :
    Calls Try.prog 23 #[.string s, .string t, .int .i64 h, .int .i64 m] w fun e w' => e = .returned (.tuple #[.string (strOfNums (told s t h m)), .int .i64 0]) ∧ Below w.heap.size w w' := by
  obtain ⟨ht, hpf⟩ := whole_parts hw0
  have htm : t.size ≤ maxLen := by unfold maxLen; omega
  have v := ev_of (c := t) g ten htm hm
  have hgd : Good t m 0 t.size := (mx_le t (by omega)).1 hmx
  have hL : Hid (decide (1 ≤ (h : Int) ∧ (h : Int) ≤ 9 ∧ 1 ≤ (m : Int) ∧ (m : Int) ≤ 5) = true) := hide (by simp; omega)
  have hN := gram_start g
  have hs := g.small
  have hF : isF s 0 = true := by unfold isF; rw [hN]; simp
  have hE : ∀ b, SaidQ b s t m (pw s 9) (t.size + 1) := fun b => recallExpression_all v ht hgd (t.size + 1)
  have hwh : wh s t = ((hh : Int), 0) := by unfold wh; rw [hw0]
  have HWH := hide hwh
  have HV := hide v
  have HE := hide hE
  have HF := hide hF
  have HG := hide g
  have HT := hide ten
  have HGD := hide hgd
  have HPF := hide hpf
  generalize hTT : told s t h m = TT
  have HTT := hide hTT
  obtain ⟨hl1, hl2⟩ := hl
  clear hTT v hE hF hgd hpf hwh hw0
  go_enter Try.func23, Try.ntmps23
  go_wp2_with (first
    | (go_at_call 22; refine (tHeight_any (unhide HG) _ htm).mono ?_; rw [unhide HWH]; rintro e w' ⟨rfl, hw⟩; replace hw := hw.symm; subst hw)
    | (go_at_call 31; refine (areLimits_any _ _ _).mono ?_; rw [unhide hL]; rintro e w' ⟨rfl, hw⟩; replace hw := hw.symm; subst hw)
    | (go_at_call 32; refine (mostElements_any _ _ ht).mono ?_; rintro e w' ⟨rfl, hw⟩; replace hw := hw.symm; subst hw)
    | fail)
  refine (newGuide_any (unhide HG) (unhide HT) _ _).mono ?_
  generalize pw s 9 = P at *
  rintro e w1 ⟨rfl, hb1⟩
  obtain ⟨t1, k1, b1⟩ := Mk.start w1 s t m P 55 #[.string ⟨#[]⟩, .int .i64 0, .int .i64 0, .int .i64 0, .int .i64 0, .int .i64 0, .int .i64 0, .int .i64 0, .int .i64 0, .int .i64 0, .int .i64 0, .int .i64 0, .int .i64 0, .int .i64 0, .int .i64 0, .int .i64 0, .int .i64 0, .int .i64 0, .int .i64 0, .int .i64 0, .int .i64 0, .int .i64 0, .int .i64 0, .int .i64 0, .int .i64 0, .int .i64 0, .int .i64 0, .int .i64 0, .string ⟨#[]⟩, .int .i64 0, .slice none 0 0] (by decide)
  obtain ⟨MV, hMV⟩ : ∃ MV, MV = (mks s t m P).toArray := ⟨_, rfl⟩
  have hML : MV.toList = mks s t m P := by rw [hMV]
  have hMs : MV.size = 31 := by rw [hMV]; simp [mks_len]
  rw [← hML] at k1 b1
  rw [← hMs] at t1
  have T1 := hide t1
  have K1 := hide k1
  have B1 := hide b1
  have hin : Hid ((Try.prog.info? 55).map (·.size) = some MV.size) := hide (by rw [hMs]; exact Try.infoRec)
  have hone : Hid (MV.all (·.oneCell') = true) := hide (by rw [hMV]; exact all_oneCell_toArray (mks_one _ _ _ _))
  generalize hGV : (gds s m P).toArray = GV
  have HBU : Hid (Try.prog.built 55 [(0, .agg GV), (1, .string t)] = some MV) := hide (by rw [← hGV, hMV]; exact Try.builtRec s t m P)
  clear t1 k1 b1 hML hMs hGV hMV
  go_wp2_with (first
    | (refine wpList_buildTo rfl 55 _ rfl _ rfl MV (by rw [Array.toList_map]; exact unhide HBU) ?_)
    | (refine wpList_store_mid rfl 55 _ _ rfl w1.heap.size 0 MV rfl rfl (unhide T1) (unhide hin) (unhide hone) ?_))
  generalize hw2 : World.setCells _ w1.heap.size 0 MV.toList = w2 at *
  clear hw2 T1
  refine (recallFactor_any (unhide HV) ht (unhide HGD) (unhide HE _) _ _ 0 h 0 t.size hh [] _ (unhide K1) rfl rfl hl2 (unhide HF) (unhide HPF) hhh (by simp)).mono ?_
  rintro e w3 ⟨rfl, hk3, hb3, hD3⟩
  have hbel : Below w.heap.size w w3 := (hb1.trans ((unhide B1).mono hb1.size)).trans (hb3.mono hb1.size)
  have hk3' : Mk w3 w1.heap.size s t m P t.size TT := by rw [← unhide HTT]; simpa [told] using hk3
  obtain ⟨ao, cap, ht30, hcv⟩ := conv_any hk3'
  have HB := hide hbel
  clear hk3 hk3' hb3 hbel hD3
  go_wp2
  go_ret2
  exact ⟨rfl, unhide HB⟩
end Go.Proofs.Ytnfaiaoipeholaa
/- The program's Recall, whole. -/
namespace Go.Proofs.Ytnfaiaoipeholaa
open Go.RowKit
set_option maxHeartbeats 400000 in
set_option maxRecDepth 1000000 in
theorem pRecall_any {s t : ByteArray} (hk : (chk s).1 = 0) (h m : Int) (w : World) (ht : t.size ≤ maxLen) :
    Calls Try.prog 23 #[.string s, .string t, .int .i64 h, .int .i64 m] w fun e w' => e = .returned (.tuple #[.string (rcl s t h m).1, .int .i64 (rcl s t h m).2]) ∧ Below w.heap.size w w' := by
  have g := gram_of hk
  have ten := ten_chk hk
  have hg := hgt_good (t := t) hk
  cases hw0 : whole s t 0 with
  | none =>
    have hwh : wh s t = (0, 7) := by unfold wh; rw [hw0]
    have e : rcl s t h m = (⟨#[]⟩, 7) := by unfold rcl; rw [hg, hwh]; rfl
    rw [e]
    have HWH := hide hwh
    have HG := hide g
    clear e hwh hw0 hg ten hk g
    go_enter Try.func23, Try.ntmps23
    go_wp2_with (go_at_call 22; refine (tHeight_any (unhide HG) _ ht).mono ?_; rw [unhide HWH]; rintro e w' ⟨rfl, hw⟩; replace hw := hw.symm; subst hw)
    go_ret2
    exact ⟨rfl, Below.refl _ _⟩
  | some hh =>
    have hwh : wh s t = ((hh : Int), 0) := by unfold wh; rw [hw0]
    have e : rcl s t h m = if ¬ (1 ≤ h ∧ h ≤ 9 ∧ 1 ≤ m ∧ m ≤ 5) then (⟨#[]⟩, 9) else if h < (hh : Int) ∨ m < (mx t : Int) then (⟨#[]⟩, 10) else (strOfNums (told s t h.toNat m.toNat), 0) := by
      unfold rcl; rw [hg, hwh, if_neg (by simp)]
    rw [e]
    have ht2 := (whole_parts hw0).1
    by_cases hl : 1 ≤ h ∧ h ≤ 9 ∧ 1 ≤ m ∧ m ≤ 5
    · rw [if_neg (by simpa using hl)]
      obtain ⟨k, rfl⟩ : ∃ k : Nat, h = k := ⟨h.toNat, by omega⟩
      obtain ⟨j, rfl⟩ : ∃ j : Nat, m = j := ⟨m.toNat, by omega⟩
      by_cases hb : (k : Int) < (hh : Int) ∨ (j : Int) < (mx t : Int)
      · rw [if_pos hb]
        have HWH := hide hwh
        have HG := hide g
        have hL : Hid (decide (1 ≤ (k : Int) ∧ (k : Int) ≤ 9 ∧ 1 ≤ (j : Int) ∧ (j : Int) ≤ 5) = true) := hide (by simp only [decide_eq_true_eq]; exact hl)
        by_cases hb1 : (k : Int) < (hh : Int)
        · clear e hwh hw0 hg ten hk g hl hb
          go_enter Try.func23, Try.ntmps23
          go_wp2_with (first
            | (go_at_call 22; refine (tHeight_any (unhide HG) _ ht).mono ?_; rw [unhide HWH]; rintro e w' ⟨rfl, hw⟩; replace hw := hw.symm; subst hw)
            | (go_at_call 31; refine (areLimits_any _ _ _).mono ?_; rw [unhide hL]; rintro e w' ⟨rfl, hw⟩; replace hw := hw.symm; subst hw)
            | (go_at_call 32; refine (mostElements_any _ _ ht2).mono ?_; rintro e w' ⟨rfl, hw⟩; replace hw := hw.symm; subst hw))
          go_ret2
          exact ⟨rfl, Below.refl _ _⟩
        · have hb2 : (j : Int) < (mx t : Int) := hb.resolve_left hb1
          clear e hwh hw0 hg ten hk g hl hb
          go_enter Try.func23, Try.ntmps23
          go_wp2_with (first
            | (go_at_call 22; refine (tHeight_any (unhide HG) _ ht).mono ?_; rw [unhide HWH]; rintro e w' ⟨rfl, hw⟩; replace hw := hw.symm; subst hw)
            | (go_at_call 31; refine (areLimits_any _ _ _).mono ?_; rw [unhide hL]; rintro e w' ⟨rfl, hw⟩; replace hw := hw.symm; subst hw)
            | (go_at_call 32; refine (mostElements_any _ _ ht2).mono ?_; rintro e w' ⟨rfl, hw⟩; replace hw := hw.symm; subst hw))
          go_ret2
          exact ⟨rfl, Below.refl _ _⟩
      · rw [if_neg hb]
        simp only [Int.toNat_natCast]
        exact pRecall_ok g ten k j hh w hw0 (by omega) (by omega) (by omega) (by omega)
    · rw [if_pos hl]
      have hL : Hid (decide (1 ≤ h ∧ h ≤ 9 ∧ 1 ≤ m ∧ m ≤ 5) = false) := hide (by simp only [decide_eq_false_iff_not]; exact hl)
      have HWH := hide hwh
      have HG := hide g
      clear e hwh hw0 hg ten hk g hl
      go_enter Try.func23, Try.ntmps23
      go_wp2_with (first
        | (go_at_call 22; refine (tHeight_any (unhide HG) _ ht).mono ?_; rw [unhide HWH]; rintro e w' ⟨rfl, hw⟩; replace hw := hw.symm; subst hw)
        | (go_at_call 31; refine (areLimits_any _ _ _).mono ?_; rw [unhide hL]; rintro e w' ⟨rfl, hw⟩; replace hw := hw.symm; subst hw))
      go_ret2
      exact ⟨rfl, Below.refl _ _⟩
set_option maxHeartbeats 400000 in
set_option maxRecDepth 1000000 in
theorem recall_any {s t : ByteArray} (h m : Int) (w : World) (hs : s.size ≤ maxLen) (ht : t.size ≤ maxLen) :
    Calls Try.prog 10 #[.string s, .string t, .int .i64 h, .int .i64 m] w fun e w' => e = .returned (.tuple #[.string (rcl s t h m).1, .int .i64 (rcl s t h m).2]) ∧ Below w.heap.size w w' := by
  by_cases hk : (chk s).1 = 0
  · have h' : ((chk s).1 != 0) = false := by simp [hk]
    have HK := hide hk; clear hk
    generalize hR : rcl s t h m = R
    have HR := hide hR; clear hR
    go_enter Try.func10, Try.ntmps10
    go_wp2_with (first | (go_at_call 21; refine (rcheck_any _ _ hs).mono ?_; rintro e w1 ⟨rfl, hb1⟩) | (go_at_call 23; refine (pRecall_any (unhide HK) _ _ _ ht).mono ?_; rw [unhide HR]; rintro e w2 ⟨rfl, hb2⟩))
    go_ret2; exact ⟨rfl, hb1.trans (hb2.mono hb1.size)⟩
  · have e : rcl s t h m = (⟨#[]⟩, (chk s).1) := by unfold rcl; rw [hgt_bad hk, if_pos hk]
    rw [e]
    have h' : ((chk s).1 != 0) = true := by simp [hk]
    clear hk e
    go_enter Try.func10, Try.ntmps10
    go_wp2_with (first | (go_at_call 21; refine (rcheck_any _ _ hs).mono ?_; rintro e w1 ⟨rfl, hb1⟩))
    go_ret2; exact ⟨rfl, hb1⟩
end Go.Proofs.Ytnfaiaoipeholaa
