/- The reader's state against the machine; the walk of the form's check. -/
import Derived.Test.YtnfaiaoipeholaaReader
import Derived.Test.YtnfaiaoipeholaaFormMath
namespace Go.Proofs.Ytnfaiaoipeholaa
open Go.RowKit

/-- the reader holds the machine's state -/
def RdS (w : World) (b : Nat) (a : Int) (op al : List Int) : Prop :=
  ∃ cl br : Nat → Int, Rd w b a op.length cl br ∧ (∀ j, j < op.length → cl j = op.getD j 0) ∧ (a = 2 → ∀ j, j < al.length → br j + 1 = al.getD j 0)

/-- what a step of the reader owes -/
def Owes (w : World) (b : Nat) (r : Int × Int × List Int × List Int) (e : Ending) (w' : World) : Prop :=
  e = .returned (.int .i64 r.1) ∧ Below b w w' ∧ (r.1 = 0 → RdS w' b r.2.1 r.2.2.1 r.2.2.2)

set_option maxHeartbeats 400000 in
theorem inExpr_open {b : Nat} {op al : List Int} (c : Int) (w : World) (h : RdS w b 2 op al) (hi : Inv 2 op al) (hc : cO c = true) :
    Calls Try.prog 89 #[.pointer (some ⟨b, 0, none⟩), .int .u8 c] w fun e w' => Owes w b (mst c 2 op al) e w' := by
  obtain ⟨cl, br, hr, hcl, hbr0⟩ := h
  have hbr := hbr0 rfl
  obtain ⟨_, _, _, h4, h5, h6, h7⟩ := hi
  have hal' := hide (h6 rfl)
  clear hbr0 h6
  rw [mst_open hc]
  have hc' := hide hc; clear hc
  by_cases hd : 5 ≤ op.length
  · rw [if_pos hd]
    go_enter Try.func89, Try.ntmps89
    go_wp2_with (first | (go_at_call 55; refine (isOpening_any _ _).mono ?_; rintro e w' ⟨rfl, rfl⟩; rw [unhide hc']) | (go_at_call 109; refine (readOpening_no _ _ hr (by omega)).mono ?_; rintro e w' ⟨rfl, rfl⟩))
    go_ret; exact ⟨rfl, Below.refl _ _, fun e => by simp at e⟩
  · rw [if_neg hd]
    go_enter Try.func89, Try.ntmps89
    go_wp2_with (first | (go_at_call 55; refine (isOpening_any _ _).mono ?_; rintro e w' ⟨rfl, rfl⟩; rw [unhide hc']) | (go_at_call 109; refine (readOpening_yes _ _ hr (by omega)).mono ?_; rintro e w' ⟨rfl, hr', hb'⟩))
    go_ret
    refine ⟨rfl, hb', fun _ => ⟨_, _, by simpa using hr', ?_, ?_⟩⟩
    · intro j hj
      by_cases e : j = op.length
      · subst e; rw [upd_same, getD_pushed]
      · have hj' : j < op.length := by simp at hj; omega
        rw [upd_other _ _ _ _ e, getD_push _ _ _ hj', hcl j hj']
    · intro _ j hj
      have hal := unhide hal'
      by_cases e : j = op.length + 1
      · subst e; rw [upd_same, ← hal, getD_pushed]; rfl
      · have hj' : j < al.length := by simp at hj; omega
        rw [upd_other _ _ _ _ e, getD_push _ _ _ hj', hbr j hj']

set_option maxHeartbeats 400000 in
theorem inExpr_close {b : Nat} {op al : List Int} (c : Int) (w : World) (h : RdS w b 2 op al) (hi : Inv 2 op al) (ho : cO c = false) (hc : cX c = true) :
    Calls Try.prog 89 #[.pointer (some ⟨b, 0, none⟩), .int .u8 c] w fun e w' => Owes w b (mst c 2 op al) e w' := by
  obtain ⟨cl, br, hr, hcl, hbr0⟩ := h
  have hbr := hbr0 rfl
  obtain ⟨_, _, _, h4, h5, h6, h7⟩ := hi
  have hal' := hide (h6 rfl)
  clear hbr0 h6
  rw [mst_close hc]
  have hc' := hide hc; clear hc
  have ho' := hide ho; clear ho
  by_cases hn : op = []
  · rw [if_neg (fun e => e.1 hn)]
    rw [hn] at hr
    go_enter Try.func89, Try.ntmps89
    go_wp2_with (first | (go_at_call 55; refine (isOpening_any _ _).mono ?_; rintro e w' ⟨rfl, rfl⟩; rw [unhide ho']) | (go_at_call 92; refine (isClosing_any _ _).mono ?_; rintro e w' ⟨rfl, rfl⟩; rw [unhide hc']) | (go_at_call 110; refine (readClosing_zero _ _ hr).mono ?_; rintro e w' ⟨rfl, hb'⟩))
    go_ret; exact ⟨rfl, hb', fun e => by simp at e⟩
  · have hp : 0 < op.length := List.length_pos_iff.2 hn
    obtain ⟨k, hk⟩ : ∃ k, op.length = k + 1 := ⟨op.length - 1, by omega⟩
    have hr2 : Rd w b 2 ((k : Int) + 1) cl br := by rw [hk] at hr; simpa using hr
    have hl : cl k = op.getLastD 0 := by rw [hcl k (by omega), last_at, hk]; rfl
    by_cases he : c = op.getLastD 0
    · rw [if_pos ⟨hn, he⟩]
      have hl2 := hide (hl.trans he.symm); clear hl he hn
      go_enter Try.func89, Try.ntmps89
      go_wp2_with (first | (go_at_call 55; refine (isOpening_any _ _).mono ?_; rintro e w' ⟨rfl, rfl⟩; rw [unhide ho']) | (go_at_call 92; refine (isClosing_any _ _).mono ?_; rintro e w' ⟨rfl, rfl⟩; rw [unhide hc']) | (go_at_call 110; refine (readClosing_yes _ _ hr2 (by omega) (unhide hl2)).mono ?_; rintro e w' ⟨rfl, hr', hb'⟩))
      go_ret
      refine ⟨rfl, hb', fun _ => ⟨cl, br, by simpa [hk] using hr', ?_, ?_⟩⟩
      · intro j hj; simp at hj; rw [getD_drop _ _ (by omega)]; exact hcl j (by omega)
      · intro _ j hj; simp at hj; rw [getD_drop _ _ (by omega)]; exact hbr j (by omega)
    · rw [if_neg (fun e => he e.2)]
      have hl2 := hide (fun e => he (e.symm.trans hl) : cl k ≠ c); clear hl he hn
      go_enter Try.func89, Try.ntmps89
      go_wp2_with (first | (go_at_call 55; refine (isOpening_any _ _).mono ?_; rintro e w' ⟨rfl, rfl⟩; rw [unhide ho']) | (go_at_call 92; refine (isClosing_any _ _).mono ?_; rintro e w' ⟨rfl, rfl⟩; rw [unhide hc']) | (go_at_call 110; refine (readClosing_other _ _ hr2 (by omega) (unhide hl2)).mono ?_; rintro e w' ⟨rfl, hb'⟩))
      go_ret
      exact ⟨rfl, hb', fun e => by simp at e⟩

set_option maxHeartbeats 400000 in
theorem inExpr_bar {b : Nat} {op al : List Int} (w : World) (h : RdS w b 2 op al) (hi : Inv 2 op al) :
    Calls Try.prog 89 #[.pointer (some ⟨b, 0, none⟩), .int .u8 124] w fun e w' => Owes w b (mst 124 2 op al) e w' := by
  obtain ⟨cl, br, hr, hcl, hbr0⟩ := h
  have hbr := hbr0 rfl
  obtain ⟨_, _, _, h4, h5, h6, h7⟩ := hi
  have hal' := hide (h6 rfl)
  clear hbr0 h6
  rw [mst_bar]
  have hal := unhide hal'
  have hl := hbr op.length (by omega)
  have hlast : al.getLastD 0 = br op.length + 1 := by rw [last_at, hal, hl]; rfl
  have hne : al ≠ [] := by intro e; rw [e] at hal; simp at hal
  have hm := h7 _ (show al.getLastD 0 ∈ al by rw [List.getLastD_eq_getLast?, List.getLast?_eq_some_getLast hne]; simp)
  rw [hlast] at hm ⊢
  have hlast' := hide hlast; clear hlast
  have hl' := hide hl; clear hl
  clear hal
  clear hne
  have ho' : Hid (cO 124 = false) := hide (by decide)
  have hx' : Hid (cX 124 = false) := hide (by decide)
  by_cases hd : 10 ≤ br op.length + 1
  · rw [if_pos hd]
    go_enter Try.func89, Try.ntmps89
    go_wp2_with (first | (go_at_call 55; refine (isOpening_any _ _).mono ?_; rintro e w' ⟨rfl, rfl⟩; rw [unhide ho']) | (go_at_call 92; refine (isClosing_any _ _).mono ?_; rintro e w' ⟨rfl, rfl⟩; rw [unhide hx']) | (go_at_call 111; refine (readBar_no _ hr (by omega) (by omega) (by omega)).mono ?_; rintro e w' ⟨rfl, hb'⟩))
    go_ret; exact ⟨rfl, hb', fun e => by simp at e⟩
  · rw [if_neg hd]
    go_enter Try.func89, Try.ntmps89
    go_wp2_with (first | (go_at_call 55; refine (isOpening_any _ _).mono ?_; rintro e w' ⟨rfl, rfl⟩; rw [unhide ho']) | (go_at_call 92; refine (isClosing_any _ _).mono ?_; rintro e w' ⟨rfl, rfl⟩; rw [unhide hx']) | (go_at_call 111; refine (readBar_yes _ hr (by omega) (by omega) (by omega)).mono ?_; rintro e w' ⟨rfl, hr', hb'⟩))
    go_ret
    refine ⟨rfl, hb', fun _ => ⟨cl, _, hr', hcl, ?_⟩⟩
    intro _ j hj
    have hal := unhide hal'
    have hdl : al.dropLast.length = op.length := by simp [hal]
    by_cases e : j = op.length
    · subst e; rw [upd_same]; have := getD_pushed al.dropLast (br op.length + 1 + 1); rw [hdl] at this; exact this.symm
    · have hj' : j < al.dropLast.length := by simp at hj; simp; omega
      rw [upd_other _ _ _ _ e, getD_push _ _ _ hj', getD_drop _ _ (by simpa using hj'), hbr j (by simp at hj'; omega)]

set_option maxHeartbeats 400000 in
theorem inExpr_semi {b : Nat} {op al : List Int} (w : World) (h : RdS w b 2 op al) (hi : Inv 2 op al) :
    Calls Try.prog 89 #[.pointer (some ⟨b, 0, none⟩), .int .u8 59] w fun e w' => Owes w b (mst 59 2 op al) e w' := by
  obtain ⟨cl, br, hr, hcl, hbr0⟩ := h
  have hbr := hbr0 rfl
  obtain ⟨_, _, _, h4, h5, h6, h7⟩ := hi
  clear hbr0 h6
  rw [mst_semi h5]
  have ho' : Hid (cO 59 = false) := hide (by decide)
  have hx' : Hid (cX 59 = false) := hide (by decide)
  by_cases hn : op.length = 0
  · rw [if_pos (List.length_eq_zero_iff.1 hn)]
    have hn' := hide hn; clear hn
    go_enter Try.func89, Try.ntmps89
    go_wp2_with (first | (go_at_call 55; refine (isOpening_any _ _).mono ?_; rintro e w' ⟨rfl, rfl⟩; rw [unhide ho']) | (go_at_call 92; refine (isClosing_any _ _).mono ?_; rintro e w' ⟨rfl, rfl⟩; rw [unhide hx']) | (go_at_call 112; refine (readEnd_any _ hr (by omega)).mono ?_; rintro e w' (⟨hp, rfl, rfl⟩ | ⟨hp, rfl, hr', hb'⟩)))
    · have := unhide hn'; omega
    · go_ret
      exact ⟨rfl, hb', fun _ => ⟨cl, br, hr', hcl, fun e => by simp at e⟩⟩
  · rw [if_neg (fun e => hn (List.length_eq_zero_iff.2 e))]
    go_enter Try.func89, Try.ntmps89
    go_wp2_with (first | (go_at_call 55; refine (isOpening_any _ _).mono ?_; rintro e w' ⟨rfl, rfl⟩; rw [unhide ho']) | (go_at_call 92; refine (isClosing_any _ _).mono ?_; rintro e w' ⟨rfl, rfl⟩; rw [unhide hx']) | (go_at_call 112; refine (readEnd_any _ hr (by omega)).mono ?_; rintro e w' (⟨hp, rfl, rfl⟩ | ⟨hp, rfl, hr', hb'⟩)))
    · go_ret
      exact ⟨rfl, Below.refl _ _, fun e => by simp at e⟩
    · omega

theorem plain_facts {c : Int} (h : (cL c || cN c) = true) : cO c = false ∧ cX c = false ∧ (c == 124) = false ∧ (c == 59) = false := by
  have hv : (97 ≤ c ∧ c ≤ 122) ∨ (65 ≤ c ∧ c ≤ 90) := by simpa [cL, cN] using h
  refine ⟨?_, ?_, by simp; omega, by simp; omega⟩
  · cases e : cO c
    · rfl
    · have := cO_vals e; omega
  · cases e : cX c
    · rfl
    · have := cX_vals e; omega

set_option maxHeartbeats 400000 in
theorem inExpr_plain {b : Nat} {op al : List Int} (c : Int) (w : World) (h : RdS w b 2 op al) (hc : (cL c || cN c) = true) :
    Calls Try.prog 89 #[.pointer (some ⟨b, 0, none⟩), .int .u8 c] w fun e w' => Owes w b (mst c 2 op al) e w' := by
  rw [mst_plain hc]
  obtain ⟨h1, h2, h3, h4⟩ := plain_facts hc
  have ho' := hide h1; clear h1
  have hx' := hide h2; clear h2
  have H := hide h; clear h
  by_cases hl : cL c = true
  · have hl' := hide hl; clear hl hc
    go_enter Try.func89, Try.ntmps89
    go_wp2_with (first | (go_at_call 55; refine (isOpening_any _ _).mono ?_; rintro e w' ⟨rfl, rfl⟩; rw [unhide ho']) | (go_at_call 92; refine (isClosing_any _ _).mono ?_; rintro e w' ⟨rfl, rfl⟩; rw [unhide hx']) | (go_at_call 67; refine (isLetter_any _ _).mono ?_; rintro e w' ⟨rfl, rfl⟩; rw [unhide hl']))
    go_ret; exact ⟨rfl, Below.refl _ _, fun _ => unhide H⟩
  · have hl1 : cL c = false := by simpa using hl
    have hn' : Hid (cN c = true) := hide (by simpa [hl1] using hc)
    have hl' := hide hl1; clear hl hc hl1
    go_enter Try.func89, Try.ntmps89
    go_wp2_with (first | (go_at_call 55; refine (isOpening_any _ _).mono ?_; rintro e w' ⟨rfl, rfl⟩; rw [unhide ho']) | (go_at_call 92; refine (isClosing_any _ _).mono ?_; rintro e w' ⟨rfl, rfl⟩; rw [unhide hx']) | (go_at_call 67; refine (isLetter_any _ _).mono ?_; rintro e w' ⟨rfl, rfl⟩; rw [unhide hl']) | (go_at_call 51; refine (isName_any _ _).mono ?_; rintro e w' ⟨rfl, rfl⟩; rw [unhide hn']))
    go_ret; exact ⟨rfl, Below.refl _ _, fun _ => unhide H⟩

set_option maxHeartbeats 400000 in
theorem inExpr_bad {b : Nat} {op al : List Int} (c : Int) (w : World) (hi : Inv 2 op al) (h1 : cO c = false) (h2 : cX c = false) (h3 : c ≠ 124) (h4 : c ≠ 59) (h5 : (cL c || cN c) = false) :
    Calls Try.prog 89 #[.pointer (some ⟨b, 0, none⟩), .int .u8 c] w fun e w' => Owes w b (mst c 2 op al) e w' := by
  rw [mst_bad hi.2.2.2.2.1 h1 h2 h3 h4 h5]
  have ho' := hide h1; clear h1
  have hx' := hide h2; clear h2
  have hl' : Hid (cL c = false) := hide (by simp at h5; exact h5.1)
  have hn' : Hid (cN c = false) := hide (by simp at h5; exact h5.2)
  have h3' : (c == 124) = false := by simp [h3]
  have h4' : (c == 59) = false := by simp [h4]
  clear h5 hi h3 h4
  go_enter Try.func89, Try.ntmps89
  go_wp2_with (first | (go_at_call 55; refine (isOpening_any _ _).mono ?_; rintro e w' ⟨rfl, rfl⟩; rw [unhide ho']) | (go_at_call 92; refine (isClosing_any _ _).mono ?_; rintro e w' ⟨rfl, rfl⟩; rw [unhide hx']) | (go_at_call 67; refine (isLetter_any _ _).mono ?_; rintro e w' ⟨rfl, rfl⟩; rw [unhide hl']) | (go_at_call 51; refine (isName_any _ _).mono ?_; rintro e w' ⟨rfl, rfl⟩; rw [unhide hn']))
  go_ret; exact ⟨rfl, Below.refl _ _, fun e => by simp at e⟩

theorem inExpr_any {b : Nat} {op al : List Int} (c : Int) (w : World) (h : RdS w b 2 op al) (hi : Inv 2 op al) :
    Calls Try.prog 89 #[.pointer (some ⟨b, 0, none⟩), .int .u8 c] w fun e w' => Owes w b (mst c 2 op al) e w' := by
  cases h1 : cO c
  · cases h2 : cX c
    · by_cases h3 : c = 124
      · subst h3; exact inExpr_bar w h hi
      · by_cases h4 : c = 59
        · subst h4; exact inExpr_semi w h hi
        · cases h5 : (cL c || cN c)
          · exact inExpr_bad c w hi h1 h2 h3 h4 h5
          · exact inExpr_plain c w h h5
    · exact inExpr_close c w h hi h1 h2
  · exact inExpr_open c w h hi h1

set_option maxHeartbeats 400000 in
theorem read_any {b : Nat} {a : Int} {op al : List Int} (c : Int) (w : World) (h : RdS w b a op al) (hi : Inv a op al) :
    Calls Try.prog 48 #[.pointer (some ⟨b, 0, none⟩), .int .u8 c] w fun e w' => Owes w b (mst c a op al) e w' := by
  have h0 := hi.1
  have h2 := hi.2.1
  by_cases ha : a = 0
  · subst ha
    rw [mst_name]
    obtain ⟨cl, br, hr, hcl, hbr⟩ := h
    have c0 := hr.wants
    clear hbr
    by_cases hn : cN c = true
    · rw [if_pos hn]
      have hn' := hide hn; clear hn
      go_enter Try.func48, Try.ntmps48
      go_wp2_with (go_at_call 87; refine (readName_any _ _ hr).mono ?_; rintro e w' (⟨hx, rfl, rfl⟩ | ⟨hx, rfl, hr', hb'⟩))
      · have := unhide hn'; rw [hx] at this; simp at this
      · go_ret; exact ⟨rfl, hb', fun _ => ⟨cl, br, hr', hcl, fun e => by simp at e⟩⟩
    · rw [if_neg hn]
      have hn' := hide hn; clear hn
      go_enter Try.func48, Try.ntmps48
      go_wp2_with (go_at_call 87; refine (readName_any _ _ hr).mono ?_; rintro e w' (⟨hx, rfl, rfl⟩ | ⟨hx, rfl, hr', hb'⟩))
      · go_ret; exact ⟨rfl, Below.refl _ _, fun e => by simp at e⟩
      · exact absurd hx (unhide hn')
  by_cases hb : a = 1
  · subst hb
    rw [mst_eq]
    have hop := hi.2.2.1 (by omega)
    obtain ⟨cl, br, hr, hcl, hbr⟩ := h
    have c0 := hr.wants
    have hop' := hide hop; clear hop
    clear hbr
    by_cases hn : c = 61
    · rw [if_pos hn]
      have hn' := hide hn; clear hn
      go_enter Try.func48, Try.ntmps48
      go_wp2_with (go_at_call 88; refine (readEquals_any _ _ hr).mono ?_; rintro e w' (⟨hx, rfl, rfl⟩ | ⟨hx, rfl, hr', hb'⟩))
      · exact absurd (unhide hn') hx
      · go_ret; refine ⟨rfl, hb', fun _ => ⟨cl, upd br 0 0, ?_, by simp, ?_⟩⟩
        · rw [unhide hop'] at hr'; exact hr'
        · intro _ j hj
          have : j = 0 := by simp at hj; omega
          subst this; rw [upd_same]; rfl
    · rw [if_neg hn]
      go_enter Try.func48, Try.ntmps48
      go_wp2_with (go_at_call 88; refine (readEquals_any _ _ hr).mono ?_; rintro e w' (⟨hx, rfl, rfl⟩ | ⟨hx, rfl, hr', hb'⟩))
      · go_ret; exact ⟨rfl, Below.refl _ _, fun e => by simp at e⟩
      · exact absurd hx hn
  · have hc : a = 2 := by omega
    subst hc
    obtain ⟨cl, br, hr, hx⟩ := id h
    have c0 := hr.wants
    have H := hide h
    clear hx h
    go_enter Try.func48, Try.ntmps48
    go_wp2_with (go_at_call 89; refine (inExpr_any _ _ (unhide H) hi).mono ?_; rintro e w' ⟨rfl, hb', hr'⟩)
    go_ret; exact ⟨rfl, hb', hr'⟩
end Go.Proofs.Ytnfaiaoipeholaa
