/- Form Chk RLeaf RScan Cells -/
import Derived.Test.YtnfaiaoipeholaaGreatDoorAa01
import Derived.Deep.MidRow
import Derived.Deep.RegionHeld
namespace Go.Proofs.YtnfaiaoipeholaaGreatDoor
open Go.RowKit

/-- the reader holds the machine's state -/
def RdS (w : World) (b : Nat) (a : Int) (op al : List Int) : Prop :=
  ∃ cl br : Nat → Int, Rd w b a op.length cl br ∧ (∀ j, j < op.length → cl j = op.getD j 0) ∧ (a = 2 → ∀ j, j < al.length → br j + 1 = al.getD j 0)

/-- what a step of the reader owes -/
def Owes (w : World) (b : Nat) (r : Int × Int × List Int × List Int) (e : Ending) (w' : World) : Prop :=
  e = .returned (.int .i64 r.1) ∧ Below b w w' ∧ (r.1 = 0 → RdS w' b r.2.1 r.2.2.1 r.2.2.2)

set_option maxHeartbeats 400000 in
theorem inExpr_open {b : Nat} {op al : List Int} (c : Int) (w : World) (h : RdS w b 2 op al) (hi : Inv 2 op al) (hc : cO c = true) :
    Calls Tryz.prog 133 #[.pointer (some ⟨b, 0, none⟩), .int .u8 c] w fun e w' => Owes w b (mst c 2 op al) e w' := by
  obtain ⟨cl, br, hr, hcl, hbr0⟩ := h
  have hbr := hbr0 rfl
  obtain ⟨_, _, _, h4, h5, h6, h7⟩ := hi
  have hal' := hide (h6 rfl)
  clear hbr0 h6
  rw [mst_open hc]
  have hc' := hide hc; clear hc
  by_cases hd : 5 ≤ op.length
  · rw [if_pos hd]
    go_enter Tryz.func133, Tryz.ntmps133
    go_wp2_with (first | (go_at_call 92; refine (isOpening_any _ _).mono ?_; rintro e w' ⟨rfl, rfl⟩; rw [unhide hc']) | (go_at_call 159; refine (readOpening_no _ _ hr (by omega)).mono ?_; rintro e w' ⟨rfl, rfl⟩))
    go_ret; exact ⟨rfl, Below.refl _ _, fun e => by simp at e⟩
  · rw [if_neg hd]
    go_enter Tryz.func133, Tryz.ntmps133
    go_wp2_with (first | (go_at_call 92; refine (isOpening_any _ _).mono ?_; rintro e w' ⟨rfl, rfl⟩; rw [unhide hc']) | (go_at_call 159; refine (readOpening_yes _ _ hr (by omega)).mono ?_; rintro e w' ⟨rfl, hr', hb'⟩))
    go_ret
    refine ⟨rfl, hb', fun _ => ⟨_, _, by simpa using hr', ?_, ?_⟩⟩
    · intro j hj
      by_cases e : j = op.length
      · subst e; rw [upd_same, getD_pushed]
      · have hj' : j < op.length := by simp at hj; omega
        rw [upd_other _ _ _ _ e, getD_push _ _ _ hj', hcl j hj']
    · intro _ j hj
      have hal := unhide hal'
      by_cases e : j = op.length + 1
      · subst e; rw [upd_same, ← hal, getD_pushed]; rfl
      · have hj' : j < al.length := by simp at hj; omega
        rw [upd_other _ _ _ _ e, getD_push _ _ _ hj', hbr j hj']

set_option maxHeartbeats 400000 in
theorem inExpr_close {b : Nat} {op al : List Int} (c : Int) (w : World) (h : RdS w b 2 op al) (hi : Inv 2 op al) (ho : cO c = false) (hc : cX c = true) :
    Calls Tryz.prog 133 #[.pointer (some ⟨b, 0, none⟩), .int .u8 c] w fun e w' => Owes w b (mst c 2 op al) e w' := by
  obtain ⟨cl, br, hr, hcl, hbr0⟩ := h
  have hbr := hbr0 rfl
  obtain ⟨_, _, _, h4, h5, h6, h7⟩ := hi
  have hal' := hide (h6 rfl)
  clear hbr0 h6
  rw [mst_close hc]
  have hc' := hide hc; clear hc
  have ho' := hide ho; clear ho
  by_cases hn : op = []
  · rw [if_neg (fun e => e.1 hn)]
    rw [hn] at hr
    go_enter Tryz.func133, Tryz.ntmps133
    go_wp2_with (first | (go_at_call 92; refine (isOpening_any _ _).mono ?_; rintro e w' ⟨rfl, rfl⟩; rw [unhide ho']) | (go_at_call 140; refine (isClosing_any _ _).mono ?_; rintro e w' ⟨rfl, rfl⟩; rw [unhide hc']) | (go_at_call 160; refine (readClosing_zero _ _ hr).mono ?_; rintro e w' ⟨rfl, hb'⟩))
    go_ret; exact ⟨rfl, hb', fun e => by simp at e⟩
  · have hp : 0 < op.length := List.length_pos_iff.2 hn
    obtain ⟨k, hk⟩ : ∃ k, op.length = k + 1 := ⟨op.length - 1, by omega⟩
    have hr2 : Rd w b 2 ((k : Int) + 1) cl br := by rw [hk] at hr; simpa using hr
    have hl : cl k = op.getLastD 0 := by rw [hcl k (by omega), last_at, hk]; rfl
    by_cases he : c = op.getLastD 0
    · rw [if_pos ⟨hn, he⟩]
      have hl2 := hide (hl.trans he.symm); clear hl he hn
      go_enter Tryz.func133, Tryz.ntmps133
      go_wp2_with (first | (go_at_call 92; refine (isOpening_any _ _).mono ?_; rintro e w' ⟨rfl, rfl⟩; rw [unhide ho']) | (go_at_call 140; refine (isClosing_any _ _).mono ?_; rintro e w' ⟨rfl, rfl⟩; rw [unhide hc']) | (go_at_call 160; refine (readClosing_yes _ _ hr2 (by omega) (unhide hl2)).mono ?_; rintro e w' ⟨rfl, hr', hb'⟩))
      go_ret
      refine ⟨rfl, hb', fun _ => ⟨cl, br, by simpa [hk] using hr', ?_, ?_⟩⟩
      · intro j hj; simp at hj; rw [getD_drop _ _ (by omega)]; exact hcl j (by omega)
      · intro _ j hj; simp at hj; rw [getD_drop _ _ (by omega)]; exact hbr j (by omega)
    · rw [if_neg (fun e => he e.2)]
      have hl2 := hide (fun e => he (e.symm.trans hl) : cl k ≠ c); clear hl he hn
      go_enter Tryz.func133, Tryz.ntmps133
      go_wp2_with (first | (go_at_call 92; refine (isOpening_any _ _).mono ?_; rintro e w' ⟨rfl, rfl⟩; rw [unhide ho']) | (go_at_call 140; refine (isClosing_any _ _).mono ?_; rintro e w' ⟨rfl, rfl⟩; rw [unhide hc']) | (go_at_call 160; refine (readClosing_other _ _ hr2 (by omega) (unhide hl2)).mono ?_; rintro e w' ⟨rfl, hb'⟩))
      go_ret
      exact ⟨rfl, hb', fun e => by simp at e⟩

set_option maxHeartbeats 400000 in
theorem inExpr_bar {b : Nat} {op al : List Int} (w : World) (h : RdS w b 2 op al) (hi : Inv 2 op al) :
    Calls Tryz.prog 133 #[.pointer (some ⟨b, 0, none⟩), .int .u8 124] w fun e w' => Owes w b (mst 124 2 op al) e w' := by
  obtain ⟨cl, br, hr, hcl, hbr0⟩ := h
  have hbr := hbr0 rfl
  obtain ⟨_, _, _, h4, h5, h6, h7⟩ := hi
  have hal' := hide (h6 rfl)
  clear hbr0 h6
  rw [mst_bar]
  have hal := unhide hal'
  have hl := hbr op.length (by omega)
  have hlast : al.getLastD 0 = br op.length + 1 := by rw [last_at, hal, hl]; rfl
  have hne : al ≠ [] := by intro e; rw [e] at hal; simp at hal
  have hm := h7 _ (show al.getLastD 0 ∈ al by rw [List.getLastD_eq_getLast?, List.getLast?_eq_some_getLast hne]; simp)
  rw [hlast] at hm ⊢
  have hlast' := hide hlast; clear hlast
  have hl' := hide hl; clear hl
  clear hal
  clear hne
  have ho' : Hid (cO 124 = false) := hide (by decide)
  have hx' : Hid (cX 124 = false) := hide (by decide)
  by_cases hd : 10 ≤ br op.length + 1
  · rw [if_pos hd]
    go_enter Tryz.func133, Tryz.ntmps133
    go_wp2_with (first | (go_at_call 92; refine (isOpening_any _ _).mono ?_; rintro e w' ⟨rfl, rfl⟩; rw [unhide ho']) | (go_at_call 140; refine (isClosing_any _ _).mono ?_; rintro e w' ⟨rfl, rfl⟩; rw [unhide hx']) | (go_at_call 161; refine (readBar_no _ hr (by omega) (by omega) (by omega)).mono ?_; rintro e w' ⟨rfl, hb'⟩))
    go_ret; exact ⟨rfl, hb', fun e => by simp at e⟩
  · rw [if_neg hd]
    go_enter Tryz.func133, Tryz.ntmps133
    go_wp2_with (first | (go_at_call 92; refine (isOpening_any _ _).mono ?_; rintro e w' ⟨rfl, rfl⟩; rw [unhide ho']) | (go_at_call 140; refine (isClosing_any _ _).mono ?_; rintro e w' ⟨rfl, rfl⟩; rw [unhide hx']) | (go_at_call 161; refine (readBar_yes _ hr (by omega) (by omega) (by omega)).mono ?_; rintro e w' ⟨rfl, hr', hb'⟩))
    go_ret
    refine ⟨rfl, hb', fun _ => ⟨cl, _, hr', hcl, ?_⟩⟩
    intro _ j hj
    have hal := unhide hal'
    have hdl : al.dropLast.length = op.length := by simp [hal]
    by_cases e : j = op.length
    · subst e; rw [upd_same]; have := getD_pushed al.dropLast (br op.length + 1 + 1); rw [hdl] at this; exact this.symm
    · have hj' : j < al.dropLast.length := by simp at hj; simp; omega
      rw [upd_other _ _ _ _ e, getD_push _ _ _ hj', getD_drop _ _ (by simpa using hj'), hbr j (by simp at hj'; omega)]

set_option maxHeartbeats 400000 in
theorem inExpr_semi {b : Nat} {op al : List Int} (w : World) (h : RdS w b 2 op al) (hi : Inv 2 op al) :
    Calls Tryz.prog 133 #[.pointer (some ⟨b, 0, none⟩), .int .u8 59] w fun e w' => Owes w b (mst 59 2 op al) e w' := by
  obtain ⟨cl, br, hr, hcl, hbr0⟩ := h
  have hbr := hbr0 rfl
  obtain ⟨_, _, _, h4, h5, h6, h7⟩ := hi
  clear hbr0 h6
  rw [mst_semi h5]
  have ho' : Hid (cO 59 = false) := hide (by decide)
  have hx' : Hid (cX 59 = false) := hide (by decide)
  by_cases hn : op.length = 0
  · rw [if_pos (List.length_eq_zero_iff.1 hn)]
    have hn' := hide hn; clear hn
    go_enter Tryz.func133, Tryz.ntmps133
    go_wp2_with (first | (go_at_call 92; refine (isOpening_any _ _).mono ?_; rintro e w' ⟨rfl, rfl⟩; rw [unhide ho']) | (go_at_call 140; refine (isClosing_any _ _).mono ?_; rintro e w' ⟨rfl, rfl⟩; rw [unhide hx']) | (go_at_call 162; refine (readEnd_any _ hr (by omega)).mono ?_; rintro e w' (⟨hp, rfl, rfl⟩ | ⟨hp, rfl, hr', hb'⟩)))
    · have := unhide hn'; omega
    · go_ret
      exact ⟨rfl, hb', fun _ => ⟨cl, br, hr', hcl, fun e => by simp at e⟩⟩
  · rw [if_neg (fun e => hn (List.length_eq_zero_iff.2 e))]
    go_enter Tryz.func133, Tryz.ntmps133
    go_wp2_with (first | (go_at_call 92; refine (isOpening_any _ _).mono ?_; rintro e w' ⟨rfl, rfl⟩; rw [unhide ho']) | (go_at_call 140; refine (isClosing_any _ _).mono ?_; rintro e w' ⟨rfl, rfl⟩; rw [unhide hx']) | (go_at_call 162; refine (readEnd_any _ hr (by omega)).mono ?_; rintro e w' (⟨hp, rfl, rfl⟩ | ⟨hp, rfl, hr', hb'⟩)))
    · go_ret
      exact ⟨rfl, Below.refl _ _, fun e => by simp at e⟩
    · omega

theorem plain_facts {c : Int} (h : (cL c || cN c) = true) : cO c = false ∧ cX c = false ∧ (c == 124) = false ∧ (c == 59) = false := by
  have hv : (97 ≤ c ∧ c ≤ 122) ∨ (65 ≤ c ∧ c ≤ 90) := by simpa [cL, cN] using h
  refine ⟨?_, ?_, by simp; omega, by simp; omega⟩
  · cases e : cO c
    · rfl
    · have := cO_vals e; omega
  · cases e : cX c
    · rfl
    · have := cX_vals e; omega

set_option maxHeartbeats 400000 in
theorem inExpr_plain {b : Nat} {op al : List Int} (c : Int) (w : World) (h : RdS w b 2 op al) (hc : (cL c || cN c) = true) :
    Calls Tryz.prog 133 #[.pointer (some ⟨b, 0, none⟩), .int .u8 c] w fun e w' => Owes w b (mst c 2 op al) e w' := by
  rw [mst_plain hc]
  obtain ⟨h1, h2, h3, h4⟩ := plain_facts hc
  have ho' := hide h1; clear h1
  have hx' := hide h2; clear h2
  have H := hide h; clear h
  by_cases hl : cL c = true
  · have hl' := hide hl; clear hl hc
    go_enter Tryz.func133, Tryz.ntmps133
    go_wp2_with (first | (go_at_call 92; refine (isOpening_any _ _).mono ?_; rintro e w' ⟨rfl, rfl⟩; rw [unhide ho']) | (go_at_call 140; refine (isClosing_any _ _).mono ?_; rintro e w' ⟨rfl, rfl⟩; rw [unhide hx']) | (go_at_call 102; refine (isLetter_any _ _).mono ?_; rintro e w' ⟨rfl, rfl⟩; rw [unhide hl']))
    go_ret; exact ⟨rfl, Below.refl _ _, fun _ => unhide H⟩
  · have hl1 : cL c = false := by simpa using hl
    have hn' : Hid (cN c = true) := hide (by simpa [hl1] using hc)
    have hl' := hide hl1; clear hl hc hl1
    go_enter Tryz.func133, Tryz.ntmps133
    go_wp2_with (first | (go_at_call 92; refine (isOpening_any _ _).mono ?_; rintro e w' ⟨rfl, rfl⟩; rw [unhide ho']) | (go_at_call 140; refine (isClosing_any _ _).mono ?_; rintro e w' ⟨rfl, rfl⟩; rw [unhide hx']) | (go_at_call 102; refine (isLetter_any _ _).mono ?_; rintro e w' ⟨rfl, rfl⟩; rw [unhide hl']) | (go_at_call 86; refine (isName_any _ _).mono ?_; rintro e w' ⟨rfl, rfl⟩; rw [unhide hn']))
    go_ret; exact ⟨rfl, Below.refl _ _, fun _ => unhide H⟩

set_option maxHeartbeats 400000 in
theorem inExpr_bad {b : Nat} {op al : List Int} (c : Int) (w : World) (hi : Inv 2 op al) (h1 : cO c = false) (h2 : cX c = false) (h3 : c ≠ 124) (h4 : c ≠ 59) (h5 : (cL c || cN c) = false) :
    Calls Tryz.prog 133 #[.pointer (some ⟨b, 0, none⟩), .int .u8 c] w fun e w' => Owes w b (mst c 2 op al) e w' := by
  rw [mst_bad hi.2.2.2.2.1 h1 h2 h3 h4 h5]
  have ho' := hide h1; clear h1
  have hx' := hide h2; clear h2
  have hl' : Hid (cL c = false) := hide (by simp at h5; exact h5.1)
  have hn' : Hid (cN c = false) := hide (by simp at h5; exact h5.2)
  have h3' : (c == 124) = false := by simp [h3]
  have h4' : (c == 59) = false := by simp [h4]
  clear h5 hi h3 h4
  go_enter Tryz.func133, Tryz.ntmps133
  go_wp2_with (first | (go_at_call 92; refine (isOpening_any _ _).mono ?_; rintro e w' ⟨rfl, rfl⟩; rw [unhide ho']) | (go_at_call 140; refine (isClosing_any _ _).mono ?_; rintro e w' ⟨rfl, rfl⟩; rw [unhide hx']) | (go_at_call 102; refine (isLetter_any _ _).mono ?_; rintro e w' ⟨rfl, rfl⟩; rw [unhide hl']) | (go_at_call 86; refine (isName_any _ _).mono ?_; rintro e w' ⟨rfl, rfl⟩; rw [unhide hn']))
  go_ret; exact ⟨rfl, Below.refl _ _, fun e => by simp at e⟩

theorem inExpr_any {b : Nat} {op al : List Int} (c : Int) (w : World) (h : RdS w b 2 op al) (hi : Inv 2 op al) :
    Calls Tryz.prog 133 #[.pointer (some ⟨b, 0, none⟩), .int .u8 c] w fun e w' => Owes w b (mst c 2 op al) e w' := by
  cases h1 : cO c
  · cases h2 : cX c
    · by_cases h3 : c = 124
      · subst h3; exact inExpr_bar w h hi
      · by_cases h4 : c = 59
        · subst h4; exact inExpr_semi w h hi
        · cases h5 : (cL c || cN c)
          · exact inExpr_bad c w hi h1 h2 h3 h4 h5
          · exact inExpr_plain c w h h5
    · exact inExpr_close c w h hi h1 h2
  · exact inExpr_open c w h hi h1

set_option maxHeartbeats 400000 in
theorem read_any {b : Nat} {a : Int} {op al : List Int} (c : Int) (w : World) (h : RdS w b a op al) (hi : Inv a op al) :
    Calls Tryz.prog 83 #[.pointer (some ⟨b, 0, none⟩), .int .u8 c] w fun e w' => Owes w b (mst c a op al) e w' := by
  have h0 := hi.1
  have h2 := hi.2.1
  by_cases ha : a = 0
  · subst ha
    rw [mst_name]
    obtain ⟨cl, br, hr, hcl, hbr⟩ := h
    have c0 := hr.wants
    clear hbr
    by_cases hn : cN c = true
    · rw [if_pos hn]
      have hn' := hide hn; clear hn
      go_enter Tryz.func83, Tryz.ntmps83
      go_wp2_with (go_at_call 131; refine (readName_any _ _ hr).mono ?_; rintro e w' (⟨hx, rfl, rfl⟩ | ⟨hx, rfl, hr', hb'⟩))
      · have := unhide hn'; rw [hx] at this; simp at this
      · go_ret; exact ⟨rfl, hb', fun _ => ⟨cl, br, hr', hcl, fun e => by simp at e⟩⟩
    · rw [if_neg hn]
      have hn' := hide hn; clear hn
      go_enter Tryz.func83, Tryz.ntmps83
      go_wp2_with (go_at_call 131; refine (readName_any _ _ hr).mono ?_; rintro e w' (⟨hx, rfl, rfl⟩ | ⟨hx, rfl, hr', hb'⟩))
      · go_ret; exact ⟨rfl, Below.refl _ _, fun e => by simp at e⟩
      · exact absurd hx (unhide hn')
  by_cases hb : a = 1
  · subst hb
    rw [mst_eq]
    have hop := hi.2.2.1 (by omega)
    obtain ⟨cl, br, hr, hcl, hbr⟩ := h
    have c0 := hr.wants
    have hop' := hide hop; clear hop
    clear hbr
    by_cases hn : c = 61
    · rw [if_pos hn]
      have hn' := hide hn; clear hn
      go_enter Tryz.func83, Tryz.ntmps83
      go_wp2_with (go_at_call 132; refine (readEquals_any _ _ hr).mono ?_; rintro e w' (⟨hx, rfl, rfl⟩ | ⟨hx, rfl, hr', hb'⟩))
      · exact absurd (unhide hn') hx
      · go_ret; refine ⟨rfl, hb', fun _ => ⟨cl, upd br 0 0, ?_, by simp, ?_⟩⟩
        · rw [unhide hop'] at hr'; exact hr'
        · intro _ j hj
          have : j = 0 := by simp at hj; omega
          subst this; rw [upd_same]; rfl
    · rw [if_neg hn]
      go_enter Tryz.func83, Tryz.ntmps83
      go_wp2_with (go_at_call 132; refine (readEquals_any _ _ hr).mono ?_; rintro e w' (⟨hx, rfl, rfl⟩ | ⟨hx, rfl, hr', hb'⟩))
      · go_ret; exact ⟨rfl, Below.refl _ _, fun e => by simp at e⟩
      · exact absurd hx hn
  · have hc : a = 2 := by omega
    subst hc
    obtain ⟨cl, br, hr, hx⟩ := id h
    have c0 := hr.wants
    have H := hide h
    clear hx h
    go_enter Tryz.func83, Tryz.ntmps83
    go_wp2_with (go_at_call 133; refine (inExpr_any _ _ (unhide H) hi).mono ?_; rintro e w' ⟨rfl, hb', hr'⟩)
    go_ret; exact ⟨rfl, hb', hr'⟩
end Go.Proofs.YtnfaiaoipeholaaGreatDoor

namespace Go.Proofs.YtnfaiaoipeholaaGreatDoor
open Go.RowKit

theorem new_reader (w : World) (t : TypeId) (cs : Array Value) (hcs : cs = #[.int .i64 0, .int .i64 0, .int .u8 0, .int .u8 0, .int .u8 0, .int .u8 0, .int .u8 0, .int .i64 0, .int .i64 0, .int .i64 0, .int .i64 0, .int .i64 0, .int .i64 0]) :
    RdS (w.alloc (.cells cs t)) w.heap.size 0 [] [] := by
  subst hcs
  refine ⟨fun _ => 0, fun _ => 0, ⟨?_, ?_, ?_, ?_, ?_⟩, by simp, by simp⟩
  · rw [World.cell?_alloc_new]; rfl
  · rw [World.cell?_alloc_new]; rfl
  · intro j hj; rw [World.cell?_alloc_new]
    match j, hj with
    | 0, _ => rfl
    | 1, _ => rfl
    | 2, _ => rfl
    | 3, _ => rfl
    | 4, _ => rfl
  · intro j hj; rw [World.cell?_alloc_new]
    match j, hj with
    | 0, _ => rfl
    | 1, _ => rfl
    | 2, _ => rfl
    | 3, _ => rfl
    | 4, _ => rfl
    | 5, _ => rfl
  · intro j hj; rw [World.frozen?_alloc_new]

set_option maxHeartbeats 400000 in
theorem checkForm_any (s : ByteArray) (w : World) (hs : s.size ≤ maxLen) :
    Calls Tryz.prog 45 #[.string s] w fun e w' => e = .returned (.tuple #[.int .i64 (fmF s s.size 0 0 [] []).1, .int .i64 (fmF s s.size 0 0 [] []).2]) ∧ Below w.heap.size w w' := by
  unfold maxLen at hs
  go_enter Tryz.func45, Tryz.ntmps45
  go_wp2
  go_loopw [5] (fun i wr => ∃ (k : Nat) (a : Int) (op al : List Int), k ≤ s.size ∧ i = .int .i64 k ∧ RdS wr w.heap.size a op al ∧ Inv a op al ∧ Below w.heap.size w wr ∧ Hid (fmF s s.size 0 0 [] [] = fmF s (s.size - k) k a op al)) (fun i _ => s.size - (intOf i).toNat)
  case atStart => exact ⟨0, 0, [], [], Nat.zero_le _, rfl, new_reader w _ _ rfl, Inv.start, (Below.refl _ _).alloc (Nat.le_refl _) _, hide rfl⟩
  case round =>
    obtain ⟨k, a, op, al, hk, rfl, hR, hI, hB, hr⟩ := hrel
    have HR := hide hR; clear hR
    have HI := hide hI; clear hI
    by_cases hlt : k < s.size
    · have H := hide (bt_at s k hlt)
      by_cases h0 : (mst (s[k].toNat : Int) a op al).1 = 0
      · have h0' : ((mst (s[k].toNat : Int) a op al).1 != 0) = false := by simp [h0]
        have h0h := hide h0; clear h0
        go_wp2_with (go_at_call 83; refine (read_any _ _ (unhide HR) (unhide HI)).mono ?_; rintro e w' ⟨rfl, hb', hr'⟩)
        go_roundw
        case rel => exact ⟨k + 1, _, _, _, by omega, by go_num, hr' (unhide h0h), (unhide HI).step (unhide h0h), hB.trans hb', hide ((unhide hr).trans (by rw [← unhide H]; exact fmF_good hlt (by rw [unhide H]; exact unhide h0h)))⟩
        case measure => simp [intOf]; omega
      · have h0' : ((mst (s[k].toNat : Int) a op al).1 != 0) = true := by simp [h0]
        have h0h := hide h0; clear h0
        go_wp2_with (go_at_call 83; refine (read_any _ _ (unhide HR) (unhide HI)).mono ?_; rintro e w' ⟨rfl, hb', hr'⟩)
        go_ret2
        exact ⟨by rw [unhide hr, fmF_bad hlt (by rw [unhide H]; exact unhide h0h), unhide H]; rfl, hB.trans hb'⟩
    · have hfe := fmF_end (a := a) (op := op) (al := al) hlt
      obtain ⟨cl, br, hrd, _⟩ := id (unhide HR)
      have c0 := hrd.wants
      by_cases hz : s.size = 0
      · have hz' : ((s.size : Int) == 0) = true := by simp [hz]
        rw [if_pos (.inr hz)] at hfe
        have hfe' := hide hfe; clear hfe hz
        go_wp2
        go_ret2
        exact ⟨by rw [unhide hr, unhide hfe']; rfl, hB⟩
      · have hz' : ((s.size : Int) == 0) = false := by rw [beq_eq_false_iff_ne]; omega
        by_cases ha : a = 0
        · rw [if_neg (by omega)] at hfe
          have hfe' := hide hfe; clear hfe
          have ha' : (a != 0) = false := by simp [ha]
          clear ha
          go_wp2
          go_ret2
          exact ⟨by rw [unhide hr, unhide hfe']; rfl, hB⟩
        · rw [if_pos (.inl ha)] at hfe
          have hfe' := hide hfe; clear hfe
          have ha' : (a != 0) = true := by simp [ha]
          go_wp2
          go_ret2
          exact ⟨by rw [unhide hr, unhide hfe']; rfl, hB⟩

set_option maxHeartbeats 400000 in
theorem rcheck_any (s : ByteArray) (w : World) (hs : s.size ≤ maxLen) :
    Calls Tryz.prog 21 #[.string s] w fun e w' => e = .returned (.tuple #[.int .i64 (chk s).1, .int .i64 (chk s).2]) ∧ Below w.heap.size w w' := by
  have hs' := hs
  unfold maxLen at hs'
  unfold chk
  by_cases hl : 300 < s.size
  · rw [if_pos hl]
    go_enter Tryz.func21, Tryz.ntmps21
    go_wp2
    go_ret2; exact ⟨rfl, Below.refl _ _⟩
  rw [if_neg hl]
  by_cases h1 : (fmF s s.size 0 0 [] []).1 = 0
  · rw [if_neg (by simp [h1])]
    have h1' : ((fmF s s.size 0 0 [] []).1 != 0) = false := by simp [h1]
    clear h1
    by_cases h2 : (twF s s.size 0).1 = 0
    · rw [if_neg (by simp [h2])]
      have h2' : ((twF s s.size 0).1 != 0) = false := by simp [h2]
      clear h2
      go_enter Tryz.func21, Tryz.ntmps21
      go_wp2_with (first | (go_at_call 45; refine (checkForm_any _ _ hs).mono ?_; rintro e w1 ⟨rfl, hb1⟩) | (go_at_call 46; refine (checkTwice_any _ _ hs).mono ?_; rintro e w2 ⟨rfl, rfl⟩) | (go_at_call 47; refine (checkNames_any _ _ hs).mono ?_; rintro e w3 ⟨rfl, rfl⟩))
      go_ret2; exact ⟨rfl, hb1⟩
    · rw [if_pos h2]
      have h2' : ((twF s s.size 0).1 != 0) = true := by simp [h2]
      clear h2
      go_enter Tryz.func21, Tryz.ntmps21
      go_wp2_with (first | (go_at_call 45; refine (checkForm_any _ _ hs).mono ?_; rintro e w1 ⟨rfl, hb1⟩) | (go_at_call 46; refine (checkTwice_any _ _ hs).mono ?_; rintro e w2 ⟨rfl, rfl⟩))
      go_ret2; exact ⟨rfl, hb1⟩
  · rw [if_pos h1]
    have h1' : ((fmF s s.size 0 0 [] []).1 != 0) = true := by simp [h1]
    clear h1
    go_enter Tryz.func21, Tryz.ntmps21
    go_wp2_with (first | (go_at_call 45; refine (checkForm_any _ _ hs).mono ?_; rintro e w1 ⟨rfl, hb1⟩))
    go_ret2; exact ⟨rfl, hb1⟩

set_option maxHeartbeats 400000 in
theorem check_any (s : ByteArray) (w : World) (hs : s.size ≤ maxLen) :
    Calls Tryz.prog 7 #[.string s] w fun e w' => e = .returned (.tuple #[.int .i64 (chk s).1, .int .i64 (chk s).2]) ∧ Below w.heap.size w w' := by
  go_enter Tryz.func7, Tryz.ntmps7
  go_wp2_with (go_at_call 21; refine (rcheck_any _ _ hs).mono ?_; rintro e w1 ⟨rfl, hb1⟩)
  go_ret2; exact ⟨rfl, hb1⟩
end Go.Proofs.YtnfaiaoipeholaaGreatDoor

namespace Go.Proofs.YtnfaiaoipeholaaGreatDoor
open Go.RowKit
set_option maxHeartbeats 400000 in
theorem name_any (c : Int) (w : World) : Calls Tryz.prog 31 #[.int .u8 c] w fun e w' => e = .returned (.bool (cN c)) ∧ w' = w := by
  go_enter Tryz.func31, Tryz.ntmps31
  go_wp2
  all_goals (go_ret; exact ⟨ret_bool (by simp [cN]; omega), rfl⟩)

set_option maxHeartbeats 400000 in
theorem letter_any (c : Int) (w : World) : Calls Tryz.prog 78 #[.int .u8 c] w fun e w' => e = .returned (.bool (cL c)) ∧ w' = w := by
  go_enter Tryz.func78, Tryz.ntmps78
  go_wp2
  all_goals (go_ret; exact ⟨ret_bool (by simp [cL]; omega), rfl⟩)

set_option maxHeartbeats 400000 in
theorem rclosing_any (c : Int) (w : World) : Calls Tryz.prog 74 #[.int .u8 c] w fun e w' => e = .returned (.int .u8 (cC c)) ∧ w' = w := by
  go_enter Tryz.func74, Tryz.ntmps74
  go_wp2
  all_goals (go_ret; exact ⟨ret_int (by simp_all [cC]), rfl⟩)

set_option maxHeartbeats 400000 in
theorem begins_any (s : ByteArray) (p : Int) (w : World) (hs : s.size ≤ maxLen) (h0 : 0 ≤ p) (h1 : p < s.size) : Calls Tryz.prog 29 #[.string s, .int .i64 p] w fun e w' => e = .returned (.bool (begB s p)) ∧ w' = w := by
  unfold maxLen at hs
  by_cases hp : p = 0
  · subst hp
    go_enter Tryz.func29, Tryz.ntmps29
    go_wp2
    all_goals (go_ret; exact ⟨ret_bool (by simp [begB]), rfl⟩)
  · have hpb : (p == 0) = false := by simp [hp]
    go_enter Tryz.func29, Tryz.ntmps29
    go_wp2
    all_goals (go_ret; exact ⟨ret_bool (by unfold begB; rw [hpb, bt_eq s (p - 1) (p.toNat - 1) (by omega) (by omega)]; rfl), rfl⟩)
end Go.Proofs.YtnfaiaoipeholaaGreatDoor

namespace Go.Proofs.YtnfaiaoipeholaaGreatDoor
open Go.RowKit
set_option maxHeartbeats 400000 in
theorem rule_any (s : ByteArray) (c : Int) (w : World) (hs : s.size ≤ maxLen) : Calls Tryz.prog 30 #[.string s, .int .u8 c] w fun e w' => e = .returned (.int .i64 (rl s c)) ∧ w' = w := by
  have hs' := hs
  unfold maxLen at hs'
  go_enter Tryz.func30, Tryz.ntmps30
  go_wp2
  go_loop [5] (fun i => ∃ k : Nat, k ≤ s.size ∧ i = .int .i64 k ∧ Hid (rl s c = rlF s c (s.size - k) k)) (fun i => s.size - (intOf i).toNat)
  case atStart => exact ⟨0, Nat.zero_le _, rfl, hide rfl⟩
  case round =>
    obtain ⟨k, hk, rfl, hr⟩ := hrel
    by_cases hlt : k < s.size
    · have H := hide (bt_at s k hlt)
      cases hb : begB s k
      · have hb' := hide hb; clear hb
        go_wp2_with (go_at_call 29; refine (begins_any _ _ _ hs (by omega) (by omega)).mono ?_; rintro e w' ⟨rfl, rfl⟩; rw [unhide hb'])
        go_round
        case rel => exact ⟨k + 1, by omega, by go_num, hide ((unhide hr).trans (rlF_no hlt (by rw [unhide hb']; rfl)))⟩
        case measure => simp [intOf]; omega
      · have hb' := hide hb; clear hb
        by_cases hc : ((s[k].toNat : Int) == c) = true
        · go_wp2_with (go_at_call 29; refine (begins_any _ _ _ hs (by omega) (by omega)).mono ?_; rintro e w' ⟨rfl, rfl⟩; rw [unhide hb'])
          go_ret
          exact ⟨ret_int (by rw [unhide hr, rlF_yes hlt (unhide hb') (by rw [unhide H]; exact hc)]), rfl⟩
        · have hc' : ((s[k].toNat : Int) == c) = false := by simpa using hc
          clear hc
          go_wp2_with (go_at_call 29; refine (begins_any _ _ _ hs (by omega) (by omega)).mono ?_; rintro e w' ⟨rfl, rfl⟩; rw [unhide hb'])
          go_round
          case rel => exact ⟨k + 1, by omega, by go_num, hide ((unhide hr).trans (rlF_no hlt (by rw [unhide H, hc']; simp)))⟩
          case measure => simp [intOf]; omega
    · go_wp2
      go_ret
      exact ⟨ret_int (by rw [unhide hr, rlF_end hlt]), rfl⟩

end Go.Proofs.YtnfaiaoipeholaaGreatDoor

namespace Go.Proofs.YtnfaiaoipeholaaGreatDoor
open Go.RowKit
/-- the heights of names as an array's cells -/
def nms (nm : Nat → Int) : List Value := (List.range 26).map fun i => .int .i64 (nm i)
theorem nms_len (nm : Nat → Int) : (nms nm).length = 26 := by simp [nms]
theorem nms_at (nm : Nat → Int) (i : Nat) (h : i < 26) : (nms nm)[i]? = some (.int .i64 (nm i)) := by simp [nms, h]
theorem nms_one (nm : Nat → Int) : ∀ v ∈ nms nm, v.oneCell' = true := by
  intro v hv; simp [nms] at hv; obtain ⟨i, _, rfl⟩ := hv; rfl
theorem Tryz.infoArr : (Tryz.prog.info? 57).map (·.size) = some 26 := by kernel_rfl

/-- the array in a block of its own -/
theorem range_alloc (w : World) (cs : List Value) (t : TypeId) : (w.alloc (.cells cs.toArray t)).rangeAt w.heap.size 0 cs := by
  intro j v hv
  rw [Nat.zero_add, World.cell?_alloc_new]
  simpa using hv
theorem range_below {w w' : World} {b o : Nat} {cs : List Value} (h : w.rangeAt b o cs) (hb : Below w.heap.size w w') : w'.rangeAt b o cs := by
  intro j v hv
  have h1 := h j v hv
  exact (hb.cell (p := ⟨b, o + j, none⟩) (World.block_lt_of_cell? w _ h1)).trans h1

def nmU (nm : Nat → Int) (i : Nat) (h : Int) : Nat → Int := fun j => if j = i then h else nm j
theorem results_cell_mid {P : Program} {fn : Func} {p : Tmp} {ty : TypeId} (h : fn.results = #[.cell p ty]) (tmps : Array Value) (w : World) (g : Nat) (cs : List Value) (d : TypeDesc)
    (hp : tmps.getD p undef = .pointer (some ⟨g, 0, none⟩)) (hc : w.rangeAt g 0 cs) (hu : P.underlying ty = some d) (hd : d.isRow = true) (hi : (P.info? ty).map (·.size) = some cs.length) :
    (results fn tmps).run P w = .ok (.agg cs.toArray) w := by
  have hp' : tmps[p]?.getD undef = .pointer (some ⟨g, 0, none⟩) := by simpa using hp
  simp [results, h, hp', asAddr, run_loadVar_mid w g 0 ty cs d hc hu hd hi]
theorem below_setRow {B : Nat} {a : World} (b : Nat) (hb : B ≤ b) : ∀ (vs : List Value) (o : Nat) {w : World}, Below B a w → Below B a (w.setCells b o vs)
  | [], _, _, h => h
  | v :: r, o, _, h => below_setRow b hb r (o + 1) (h.setCell (p := ⟨b, o, none⟩) hb v)

theorem Tryz.infoByte : (Tryz.prog.info? 5).map (fun i => (i.zero, i.size, i.bytes)) = some (some (.int .u8 0), 1, 1) := by kernel_rfl
end Go.Proofs.YtnfaiaoipeholaaGreatDoor
