/- The program's Height: what it answers. -/
import Derived.Test.YtnfaiaoipeholaaPTree
import Derived.Test.YtnfaiaoipeholaaChk
namespace Go.Proofs.Ytnfaiaoipeholaa
open Go.RowKit
section
variable {s t : ByteArray}

set_option maxHeartbeats 400000 in
theorem factors_any (v : Env s t) {n : Nat} (hn : n ≤ 2003) (hE : SaidE s t n) (p q : Int) (f i : Nat) (w : World) (hp : p = f) (hq : q = i) (hf : f ≤ 302) (hi : i ≤ t.size) (hin : t.size < i + n) :
    Calls Try.prog 114 #[.string s, .int .i64 p, .string t, .int .i64 q] w fun e w' => Ret t (n + 1) (pFs (pF s t 0 (pE s t 0 n)) (fe s f).1 i 0) e ∧ w' = w := by
  subst hp hq
  have hs := v.hs
  have ht := v.ht
  generalize hR : pFs (pF s t 0 (pE s t 0 n)) (fe s f).1 i 0 = R
  have HR := hide hR; clear hR
  go_enter Try.func114, Try.ntmps114
  go_wp2
  go_loop [1, 10, 11] (fun fv ev gv => ∃ (k : Nat) (je hg : Int), fv = .int .i64 k ∧ ev = .int .i64 je ∧ gv = .int .i64 hg ∧ k ≤ 302 ∧ 0 ≤ hg ∧ hg ≤ n + 1 ∧ ((Hid (R = none) ∧ je = -1) ∨ ∃ a c : Nat, je = a ∧ hg = c ∧ i ≤ a ∧ a ≤ t.size ∧ Hid (R = pFs (pF s t 0 (pE s t 0 n)) (fe s k).1 a c))) (fun fv _ _ => (303 - intOf fv).toNat)
  case atStart => exact ⟨f, i, 0, rfl, rfl, rfl, hf, by omega, by omega, .inr ⟨i, 0, rfl, rfl, by omega, hi, hide (unhide HR).symm⟩⟩
  case round =>
    obtain ⟨k, je, hg, rfl, rfl, rfl, hk, g0, g1, hrr⟩ := hrel
    rcases hrr with ⟨hN, rfl⟩ | ⟨a, c, rfl, rfl, hia, hat, hN⟩
    · go_wp2
      go_ret2
      exact ⟨⟨_, _, rfl, g0, by omega, .inl ⟨unhide hN, rfl⟩⟩, rfl⟩
    · have hne : ((a : Int) != -1) = true := by simp only [bne_iff_ne]; omega
      cases hF : isF s k
      · have HF := hide hF; clear hF
        go_wp2_with (go_at_call 115; refine (isFactor_any _ _ k _ hs rfl).mono ?_; rintro e w' ⟨rfl, rfl⟩; rw [unhide HF])
        go_ret2
        exact ⟨⟨_, _, rfl, g0, by omega, .inr ⟨a, c, by rw [unhide hN, fe_no (unhide HF)]; rfl, rfl, rfl, hat⟩⟩, rfl⟩
      · have hb := bh_bd hF
        have hl := isF_lt hF
        have HF := hide hF; clear hF
        go_wp2_with (first | (go_at_call 115; refine (isFactor_any _ _ k _ hs rfl).mono ?_; rintro e w' ⟨rfl, rfl⟩; rw [unhide HF]) | (go_at_call 130; refine (factor_any v ?_ hE _ _ k a _ rfl rfl ?_ ?_ (unhide HF)).mono ?_; omega; omega; omega; rintro e w' ⟨⟨j1, h1, rfl, h0, hh1, hr1⟩, rfl⟩) | (go_at_call 56; refine (greater_any _ _ _).mono ?_; rintro e w' ⟨rfl, rfl⟩) | (go_at_call 116; refine (behind_any _ _ k _ hs rfl ?_).mono ?_; omega; rintro e w' ⟨rfl, rfl⟩))
        go_round
        case rel =>
          refine ⟨bh s k, j1, max c h1, rfl, rfl, rfl, by omega, by omega, by omega, ?_⟩
          have hR := unhide hN
          rw [fe_yes (unhide HF)] at hR
          rcases hr1 with ⟨hr1, rfl⟩ | ⟨a1, c1, hr1, rfl, rfl, ha1⟩
          · left
            exact ⟨hide (by rw [hR]; simp only [pFs, hr1]), rfl⟩
          · right
            have hf := pF_fwd (most := 0) (fun x i => pE_fwd s t 0 n x i) (unhide HF) a1 c1 hr1
            exact ⟨a1, max c c1, rfl, by omega, by omega, ha1, hide (by rw [hR]; simp only [pFs, hr1])⟩
        case measure => simp [intOf]; omega

set_option maxHeartbeats 400000 in
theorem expr_step (v : Env s t) {n : Nat} (hn : n ≤ 2003) (hE : SaidE s t n) : SaidE s t (n + 1) := by
  intro p q x i w hp hq hx hi hin
  subst hp hq
  have hs := v.hs
  have ht := v.ht
  have hm : Sz t := v.mt
  have hms : Sz s := v.ms
  generalize hR : pE s t 0 (n + 1) x i = R
  unfold pE at hR
  cases hd : cD (bt t i)
  · rw [if_neg (by simp [hd])] at hR
    have HR := hide hR; have HD := hide hd; clear hR hd
    go_enter Try.func90, Try.ntmps90
    go_wp2_with (first | (go_at_call 52; refine (at_sz _ _ _ ?_).mono ?_; (first | with_reducible exact hm | with_reducible exact hms); rintro e w' ⟨rfl, rfl⟩) | (go_at_call 61; refine (isDigit_any _ _).mono ?_; rintro e w' ⟨rfl, rfl⟩; rw [unhide HD]))
    go_ret2
    exact ⟨⟨_, _, rfl, by omega, by omega, .inl ⟨(unhide HR).symm, rfl⟩⟩, rfl⟩
  · rw [if_pos hd] at hR
    have hdv : 48 ≤ bt t i ∧ bt t i ≤ 57 := by simpa [cD] using hd
    have hl := bt_lt (s := t) (p := i) (by omega)
    have HD := hide hd; clear hd
    obtain ⟨d, hdn⟩ : ∃ d : Nat, bt t i - 48 = (d : Int) := ⟨(bt t i - 48).toNat, by omega⟩
    rw [show (bt t i - 48).toNat = d by omega] at hR
    have HDN := hide hdn
    have hd20 : d ≤ 20 := by omega
    clear hdn
    cases ha : ap s d x with
    | none =>
      rw [ha] at hR
      have HA := hide ha; have HR := hide hR; clear ha hR
      go_enter Try.func90, Try.ntmps90
      go_wp2_with (first | (go_at_call 52; refine (at_sz _ _ _ ?_).mono ?_; (first | with_reducible exact hm | with_reducible exact hms); rintro e w' ⟨rfl, rfl⟩) | (go_at_call 61; refine (isDigit_any _ _).mono ?_; rintro e w' ⟨rfl, rfl⟩; rw [unhide HD]) | (go_at_call 113; refine (alternative_any _ _ _ x d _ hs rfl (unhide HDN) hx hd20).mono ?_; rw [unhide HA]; rintro e w' ⟨rfl, rfl⟩; simp only [pl]))
      go_ret2
      exact ⟨⟨_, _, rfl, by omega, by omega, .inl ⟨(unhide HR).symm, rfl⟩⟩, rfl⟩
    | some a =>
      rw [ha] at hR
      have hab := ap_bd ha
      have hne : ((a : Int) == -1) = false := by simp only [beq_eq_false_iff_ne]; omega
      have HA := hide ha; have HR := hide hR; clear ha hR
      go_enter Try.func90, Try.ntmps90
      go_wp2_with (first | (go_at_call 52; refine (at_sz _ _ _ ?_).mono ?_; (first | with_reducible exact hm | with_reducible exact hms); rintro e w' ⟨rfl, rfl⟩) | (go_at_call 61; refine (isDigit_any _ _).mono ?_; rintro e w' ⟨rfl, rfl⟩; rw [unhide HD]) | (go_at_call 113; refine (alternative_any _ _ _ x d _ hs rfl (unhide HDN) hx hd20).mono ?_; rw [unhide HA]; rintro e w' ⟨rfl, rfl⟩; simp only [pl]) | (go_at_call 114; refine (factors_any v hn hE _ _ a (i + 1) _ ?_ ?_ ?_ ?_ ?_).mono ?_; rfl; omega; omega; omega; omega; rintro e w' ⟨⟨j1, h1, rfl, h0, hh1, hr1⟩, rfl⟩))
      go_ret2
      refine ⟨⟨_, _, rfl, h0, hh1, ?_⟩, rfl⟩
      have hR := unhide HR
      rw [← hR]; exact hr1

theorem expr_all (v : Env s t) : ∀ n, n ≤ 2004 → SaidE s t n
  | 0, _ => by
    intro p q x i w hp hq hx hi hin
    subst hp hq
    have hm : Sz t := v.mt
    have hms : Sz s := v.ms
    have hz : bt t i = 0 := bt_out t i (by omega)
    have HD : Hid (cD (bt t i) = false) := hide (by rw [hz]; decide)
    clear hz
    go_enter Try.func90, Try.ntmps90
    go_wp2_with (first | (go_at_call 52; refine (at_sz _ _ _ ?_).mono ?_; (first | with_reducible exact hm | with_reducible exact hms); rintro e w' ⟨rfl, rfl⟩) | (go_at_call 61; refine (isDigit_any _ _).mono ?_; rintro e w' ⟨rfl, rfl⟩; rw [unhide HD]))
    go_ret2
    exact ⟨⟨_, _, rfl, by omega, by omega, .inl ⟨rfl, rfl⟩⟩, rfl⟩
  | n + 1, h => expr_step v (by omega) (expr_all v n (by omega))

/-- the answer, of a grammar without a fault -/
def wh (s t : ByteArray) : Int × Int := match whole s t 0 with
  | none => (0, 7)
  | some h => ((h : Int), 0)
theorem gram_start {s : ByteArray} (g : Gram s) : cN (bt s (0 : Nat)) = true := (g.rule 0 g.pos (by simp [begB])).1
theorem Gram.env {s t : ByteArray} (g : Gram s) (ht : t.size ≤ 2000) : Env s t :=
  ⟨g.small, ht, fun f hf => by obtain ⟨j, h1, h2, _⟩ := g.name f hf; exact ⟨j, h1, h2⟩⟩
theorem pF_name {s t : ByteArray} {most : Int} {rec : Nat → Nat → Option (Nat × Nat)} {f i : Nat} (h : cN (bt s f) = true) : pF s t most rec f i = if bt t i ≠ bt s f then none else pN s t rec f (i + 1) := by
  have hl : ¬ cL (bt s f) = true := by
    have hv : 65 ≤ bt s f ∧ bt s f ≤ 90 := by simpa [cN] using h
    simp [cL]; omega
  unfold pF; rw [if_neg hl, if_pos h]

set_option maxHeartbeats 400000 in
theorem tHeight_any (g : Gram s) (w : World) (hm : t.size ≤ maxLen) :
    Calls Try.prog 22 #[.string s, .string t] w fun e w' => e = .returned (.tuple #[.int .i64 (wh s t).1, .int .i64 (wh s t).2]) ∧ w' = w := by
  unfold maxLen at hm
  generalize hR : wh s t = R
  unfold wh whole at hR
  by_cases hl : 2000 < t.size
  · rw [if_pos hl] at hR
    have HR := hide hR; clear hR
    go_enter Try.func22, Try.ntmps22
    go_wp2
    go_ret2
    exact ⟨by rw [← unhide HR]; rfl, rfl⟩
  · rw [if_neg hl, pF_name (gram_start g)] at hR
    have v : Env s t := g.env (by omega)
    have HC := hide (gram_start g)
    have HR := hide hR; clear hR
    go_enter Try.func22, Try.ntmps22
    go_wp2_with fail
    refine (tName_any v (n := t.size + 1) (by omega) (expr_all v _ (by omega)) _ _ 0 0 _ rfl rfl (by omega) (by omega) (unhide HC)).mono ?_
    rintro e w' ⟨⟨j1, h1, rfl, h0, hh1, hr1⟩, rfl⟩
    rcases hr1 with ⟨hr1, rfl⟩ | ⟨a1, c1, hr1, rfl, rfl, ha1⟩
    · have hR := unhide HR
      rw [hr1] at hR
      have HR2 := hide hR; clear hR hr1
      have hne : ((-1 : Int) != (t.size : Int)) = true := by simp only [bne_iff_ne]; omega
      go_wp2
      go_ret2
      exact ⟨by rw [← unhide HR2]; rfl, rfl⟩
    · have hR := unhide HR
      rw [hr1] at hR
      simp only at hR
      by_cases he : a1 = t.size
      · rw [if_pos he] at hR
        have HR2 := hide hR; clear hR hr1
        have hne : ((a1 : Int) != (t.size : Int)) = false := by simp [he]
        clear he
        go_wp2
        go_ret2
        exact ⟨by rw [← unhide HR2]; rfl, rfl⟩
      · rw [if_neg he] at hR
        have HR2 := hide hR; clear hR hr1
        have hne : ((a1 : Int) != (t.size : Int)) = true := by simp only [bne_iff_ne]; omega
        clear he
        go_wp2
        go_ret2
        exact ⟨by rw [← unhide HR2]; rfl, rfl⟩

theorem hgt_bad (h : (chk s).1 ≠ 0) : hgt s t = (0, (chk s).1) := by unfold hgt; rw [if_pos h]
theorem hgt_good (h : (chk s).1 = 0) : hgt s t = wh s t := by unfold hgt; rw [if_neg (by simp [h])]; rfl

set_option maxHeartbeats 400000 in
theorem height_any (w : World) (hs : s.size ≤ maxLen) (hm : t.size ≤ maxLen) :
    Calls Try.prog 9 #[.string s, .string t] w fun e w' => e = .returned (.tuple #[.int .i64 (hgt s t).1, .int .i64 (hgt s t).2]) ∧ Below w.heap.size w w' := by
  by_cases h : (chk s).1 = 0
  · rw [hgt_good h]
    have h' : ((chk s).1 != 0) = false := by simp [h]
    have G := hide (gram_of h); clear h
    go_enter Try.func9, Try.ntmps9
    go_wp2_with (first | (go_at_call 21; refine (rcheck_any _ _ hs).mono ?_; rintro e w1 ⟨rfl, hb1⟩) | (go_at_call 22; refine (tHeight_any (unhide G) _ hm).mono ?_; rintro e w2 ⟨rfl, rfl⟩))
    go_ret2; exact ⟨rfl, hb1⟩
  · rw [hgt_bad h]
    have h' : ((chk s).1 != 0) = true := by simp [h]
    clear h
    go_enter Try.func9, Try.ntmps9
    go_wp2_with (first | (go_at_call 21; refine (rcheck_any _ _ hs).mono ?_; rintro e w1 ⟨rfl, hb1⟩))
    go_ret2; exact ⟨rfl, hb1⟩
end
end Go.Proofs.Ytnfaiaoipeholaa
