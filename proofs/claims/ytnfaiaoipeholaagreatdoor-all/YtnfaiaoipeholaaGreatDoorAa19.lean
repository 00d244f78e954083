/- RMatch RRec -/
import Derived.Test.YtnfaiaoipeholaaGreatDoorAa18
import Derived.Test.YtnfaiaoipeholaaGreatDoorAa02
import Derived.Deep.AppendLies
import Derived.Test.YtnfaiaoipeholaaGreatDoorAa13
namespace Go.Proofs.YtnfaiaoipeholaaGreatDoor
open Go.RowKit
theorem cO_not {c : Int} (h : cO c = false) : (c == 40) = false ∧ (c == 91) = false ∧ (c == 123) = false ∧ (c == 60) = false := by
  refine ⟨?_, ?_, ?_, ?_⟩ <;> (simp only [beq_eq_false_iff_ne]; intro e; rw [e] at h; revert h; decide)
theorem cX_not {c : Int} (h : cX c = false) : (c == 41) = false ∧ (c == 93) = false ∧ (c == 125) = false ∧ (c == 62) = false := by
  refine ⟨?_, ?_, ?_, ?_⟩ <;> (simp only [beq_eq_false_iff_ne]; intro e; rw [e] at h; revert h; decide)

set_option maxHeartbeats 1000000 in
theorem match_any (t : ByteArray) (q : Int) (i : Nat) (w : World) (ht : t.size ≤ 2000) (hq : q = i) (hi : i ≤ t.size) :
    Calls Tryz.prog 130 #[.string t, .int .i64 q] w fun e w' => e = .returned (.int .i64 (mt t i)) ∧ w' = w := by
  subst hq
  generalize hR : mt t i = R
  unfold mt at hR
  have HR := hide hR; clear hR
  go_enter Tryz.func130, Tryz.ntmps130
  go_wp2
  go_loop [5, 6] (fun dv jv => ∃ (k : Nat) (d : Int), k ≤ t.size ∧ -(k : Int) ≤ d ∧ d ≤ k ∧ jv = .int .i64 k ∧ dv = .int .i64 d ∧ Hid (R = mtD t k d)) (fun _ jv => t.size - (intOf jv).toNat)
  case atStart => exact ⟨i, 0, hi, by omega, by omega, rfl, rfl, hide (unhide HR).symm⟩
  case round =>
    obtain ⟨k, d, hk, hd1, hd2, rfl, rfl, hr⟩ := hrel
    by_cases hlt : k < t.size
    · have hb := bt_at t k hlt
      have hst := mtD_step (d := d) hlt
      rw [hb] at hst
      cases h1 : cO (t[k].toNat : Int)
      · rw [if_neg (by simp [h1])] at hst
        obtain ⟨o1, o2, o3, o4⟩ := cO_not h1
        cases h2 : cX (t[k].toNat : Int)
        · rw [if_neg (by simp [h2])] at hst
          obtain ⟨x1, x2, x3, x4⟩ := cX_not h2
          have HS := hide ((unhide hr).trans hst)
          clear hr hst hb h1 h2
          go_wp2
          go_round
          case rel => exact ⟨k + 1, d, by omega, by omega, by omega, by go_num, rfl, HS⟩
          case measure => simp [intOf]; omega
        · rw [if_pos h2] at hst
          by_cases hz : d - 1 = 0
          · rw [if_pos hz] at hst
            have hz' : (d - 1 == 0) = true := by simp [hz]
            have HS := hide ((unhide hr).trans hst)
            clear hr hst hb h1 o1 o2 o3 o4
            rcases cX_vals h2 with hc | hc | hc | hc
            all_goals
              clear h2
              go_wp2
              go_ret
              exact ⟨ret_int (by rw [unhide HS]), rfl⟩
          · rw [if_neg hz] at hst
            have hz' : (d - 1 == 0) = false := by simp only [beq_eq_false_iff_ne]; exact hz
            have HS := hide ((unhide hr).trans hst)
            clear hr hst hb h1 o1 o2 o3 o4
            rcases cX_vals h2 with hc | hc | hc | hc
            all_goals
              clear h2
              go_wp2
              go_round
              case rel => exact ⟨k + 1, d - 1, by omega, by omega, by omega, by go_num, rfl, HS⟩
              case measure => simp [intOf]; omega
      · rw [if_pos h1] at hst
        have HS := hide ((unhide hr).trans hst)
        clear hr hst hb
        rcases cO_vals h1 with hc | hc | hc | hc
        all_goals
          clear h1
          go_wp2
          go_round
          case rel => exact ⟨k + 1, d + 1, by omega, by omega, by omega, by go_num, rfl, HS⟩
          case measure => simp [intOf]; omega
    · have HF : Hid (R = t.size) := hide (by rw [unhide hr]; unfold mtD; rw [show t.size - k = 0 by omega]; rfl)
      clear hr
      go_wp2
      go_ret
      exact ⟨ret_int (by rw [unhide HF]), rfl⟩

theorem Tryz.infoStr : (Tryz.prog.info? 9).map (fun i => (i.zero, i.size, i.bytes)) = some (some (.string ⟨#[]⟩), 1, 16) := by kernel_rfl
/-- what elements answers: only how many matter -/
def OutN (N : Nat) (w : World) (e : Ending) (w' : World) : Prop := ∃ ao cap, e = .returned (.slice ao N cap) ∧ Below w.heap.size w w'

set_option maxHeartbeats 1000000 in
set_option maxRecDepth 1000000 in
theorem relements_any (t : ByteArray) (q : Int) (i : Nat) (w : World) (ht : t.size ≤ 2000) (hq : q = i) (hi : i < t.size) :
    Calls Tryz.prog 76 #[.string t, .int .i64 q] w fun e w' => OutN (rn t (mt t i) (i + 1) + (if i + 1 < mt t i then 1 else 0)) w e w' := by
  subst hq
  have hmb := mt_bd (t := t) (j := i) (by omega)
  obtain ⟨i1, hi1, hy0, hy1, hy2⟩ := info_parts Tryz.infoStr
  generalize hN : rn t (mt t i) (i + 1) + (if i + 1 < mt t i then 1 else 0) = N
  have HN := hide hN
  generalize hE : mt t i = E at *
  have HE := hide hE
  obtain ⟨hm1, hm2⟩ := hmb
  clear hN hE
  go_enter Tryz.func76, Tryz.ntmps76
  go_wp2_with (go_at_call 130; refine (match_any t _ i _ ht rfl (by omega)).mono ?_; rw [unhide HE]; rintro e w' ⟨rfl, hw⟩; replace hw := hw.symm; subst hw)
  go_loopw [5, 7, 8] (fun ov fv jv wr => ∃ (k fr c : Nat) (xs : List Value), i + 1 ≤ fr ∧ fr ≤ k ∧ k ≤ t.size + 1 ∧ (fr ≤ E ∨ fr = i + 1) ∧ c ≤ k ∧ jv = .int .i64 k ∧ fv = .int .i64 fr ∧ wr.ownsRow w.heap.size 9 1 ov c xs ∧ Below w.heap.size w wr ∧ Hid (N = c + rn t E k + (if i + 1 < E then 1 else 0))) (fun _ _ jv _ => t.size + 1 - (intOf jv).toNat)
  case atStart => exact ⟨i + 1, i + 1, 0, [], by omega, by omega, by omega, .inr rfl, by omega, by go_num, by go_num, World.ownsRow_nil w w.heap.size 9 1, Below.refl _ _, hide (by rw [← unhide HN]; omega)⟩
  case round =>
    obtain ⟨k, fr, c, xs, hfr1, hfr2, hk, hfE, hck, rfl, rfl, hown, hbel, hr⟩ := hrel
    have HO := hide hown
    have HB := hide hbel
    clear hbel
    by_cases hlt : k < E
    · have hkl : k < t.size := by omega
      have hb := bt_at t k hkl
      have hst := rn_step hm2 hlt
      have hmk := mt_bd (t := t) (j := k) (by omega)
      cases h1 : cO (bt t k)
      · rw [if_neg (by rw [h1]; decide)] at hst
        have hcC : Hid (cC (t[k].toNat : Int) = 0) := hide (by rw [← hb]; simpa [cO] using h1)
        by_cases h44 : bt t k = 44
        · rw [if_pos h44] at hst
          have hc44 : (t[k].toNat : Int) = 44 := by rw [← hb]; exact h44
          have HS : Hid (N = (c + 1) + rn t E (k + 1) + (if i + 1 < E then 1 else 0)) := hide (by rw [unhide hr, hst]; omega)
          clear hst hb h1 h44 hr
          go_wp2_with (first
            | (go_at_call 74; refine (rclosing_any _ _).mono ?_; rw [show cC 44 = 0 by decide]; rintro e w' ⟨rfl, hw⟩; replace hw := hw.symm; subst hw)
            | (at_builtin; refine wpList_append_lies _ rfl _ _ 24 rfl w.heap.size 9 i1 (.string ⟨#[]⟩) 1 16 Tryz.underlying24 hi1 hy0 hy1 hy2 rfl (by decide) _ _ _ rfl (hown.alloc _) ⟨_, 0, none⟩ 1 1 [.string (t.extract fr k)] rfl rfl ?c1 ?c2 ?c3 ?c4 ?c5 ?c6 _ rfl ?_))
          case c1 => exact World.news_of_block (heap_alloc_new _ _)
          case c2 => intro u hu; simp at hu; subst hu; rfl
          case c3 => omega
          case c4 => unfold maxLen; omega
          case c5 => omega
          case c6 => have := (unhide HB).size; simp; omega
          · intro g1 cap1 w3 hown3 hg3 hb3 hlt3
            have HO3 := hide hown3
            have HB3 := hide (((unhide HB).alloc (unhide HB).size _).grown hg3 (by have := (unhide HB).size; simp; omega) (fun j hj => (hown.lt j hj).1))
            clear hown3 hg3 hb3 hlt3 hown
            go_wp2
            go_roundw
            case rel => exact ⟨k + 1, k + 1, c + 1, _, by omega, by omega, by omega, .inl (by omega), by omega, by go_num, by go_num, unhide HO3, unhide HB3, HS⟩
            case measure => simp [intOf]; omega
        · rw [if_neg h44] at hst
          have hc44 : ((t[k].toNat : Int) == 44) = false := by rw [← hb]; simp [h44]
          have HS : Hid (N = c + rn t E (k + 1) + (if i + 1 < E then 1 else 0)) := hide (by rw [unhide hr, hst])
          clear hst hb h1 h44 hr hown
          go_wp2_with (go_at_call 74; refine (rclosing_any _ _).mono ?_; rw [unhide hcC]; rintro e w' ⟨rfl, hw⟩; replace hw := hw.symm; subst hw)
          go_roundw
          case rel => exact ⟨k + 1, fr, c, xs, by omega, by omega, by omega, hfE, by omega, by go_num, rfl, unhide HO, unhide HB, HS⟩
          case measure => simp [intOf]; omega
      · rw [if_pos h1] at hst
        have hcC : cC (t[k].toNat : Int) ≠ 0 := by rw [← hb]; simpa [cO] using h1
        have hcC' : (cC (t[k].toNat : Int) != 0) = true := by simp [hcC]
        have HS : Hid (N = c + rn t E (mt t k + 1) + (if i + 1 < E then 1 else 0)) := hide (by rw [unhide hr, hst])
        clear hst hb h1 hr hown hcC
        go_wp2_with (first
          | (go_at_call 74; refine (rclosing_any _ _).mono ?_; rintro e w' ⟨rfl, hw⟩; replace hw := hw.symm; subst hw)
          | (go_at_call 130; refine (match_any t _ k _ ht rfl (by omega)).mono ?_; rintro e w' ⟨rfl, hw⟩; replace hw := hw.symm; subst hw))
        go_roundw
        case rel => exact ⟨mt t k + 1, fr, c, xs, by omega, by omega, by omega, hfE, by omega, by go_num, rfl, unhide HO, unhide HB, HS⟩
        case measure => simp [intOf]; omega
    · have hz : rn t E k = 0 := rn_end (by omega)
      by_cases hiE : i + 1 < E
      · have hS : N = c + 1 := by have h := unhide hr; rw [hz, if_pos hiE] at h; omega
        subst hS
        have hfE' : fr ≤ E := by omega
        clear hr hz
        go_wp2_with (at_builtin; refine wpList_append_lies _ rfl _ _ 24 rfl w.heap.size 9 i1 (.string ⟨#[]⟩) 1 16 Tryz.underlying24 hi1 hy0 hy1 hy2 rfl (by decide) _ _ _ rfl (hown.alloc _) ⟨_, 0, none⟩ 1 1 [.string (t.extract fr E)] rfl rfl ?c1 ?c2 ?c3 ?c4 ?c5 ?c6 _ rfl ?_)
        case c1 => exact World.news_of_block (heap_alloc_new _ _)
        case c2 => intro u hu; simp at hu; subst hu; rfl
        case c3 => omega
        case c4 => unfold maxLen; omega
        case c5 => omega
        case c6 => have := (unhide HB).size; simp; omega
        · intro g1 cap1 w3 hown3 hg3 hb3 hlt3
          have HB3 := hide (((unhide HB).alloc (unhide HB).size _).grown hg3 (by have := (unhide HB).size; simp; omega) (fun j hj => (hown.lt j hj).1))
          clear hown3 hg3 hb3 hlt3 hown
          go_wp2
          go_ret
          exact ⟨_, _, rfl, unhide HB3⟩
      · have hS : N = c := by have h := unhide hr; rw [hz, if_neg hiE] at h; omega
        subst hS
        obtain ⟨ao, cap, rfl⟩ : ∃ ao cap, u5 = .slice ao N cap := by
          rcases hown.2 with ⟨e, h0⟩ | ⟨g, cap, _, e, _⟩
          · exact ⟨none, 0, by rw [e, h0]⟩
          · exact ⟨_, cap, e⟩
        clear hr hz hown
        go_wp2
        go_ret
        exact ⟨ao, cap, rfl, unhide HB⟩
end Go.Proofs.YtnfaiaoipeholaaGreatDoor

namespace Go.Proofs.YtnfaiaoipeholaaGreatDoor
open Go.RowKit
theorem conv_drew (w : World) (x : Int) : (convert 83 9 (.slice (some ⟨w.heap.size, 0, none⟩) 1 1)).run Tryz.prog (w.alloc (.cells #[.int .u8 x] 5)).drew = .ok (.string (strOfNums [x])) (w.alloc (.cells #[.int .u8 x] 5)).drew :=
  run_convert_bytes_arg _ 83 5 Tryz.underlying83 Tryz.underlying5 w.heap.size 0 1 1 [x] rfl (fun i hi => by
    have : i = 0 := by omega
    subst this
    show (w.alloc (.cells #[.int .u8 x] 5)).cell? _ = _
    rw [World.cell?_alloc_new]; rfl) _ Tryz.underlying9
section
variable {w : World} {b : Nat} {s t : ByteArray} {m : Int} {B g : Nat} {a : Nat} {T : List Int}
set_option maxHeartbeats 400000 in
set_option maxRecDepth 1000000 in
theorem took_any (hm : Rm w b s t m B g a T) (hT : T.length ≤ 10000) (q r : Int) (n k : Nat) (hq : q = k) (hr : r = n) (hn : n ≤ 1000) (hk : k ≤ 9) : Calls Tryz.prog 77 #[.pointer (some ⟨b, 0, none⟩), .int .i64 q, .int .i64 r] w fun e w' => e = .returned (.tuple #[]) ∧ Rm w' b s t m B g a (T ++ dgt n k) ∧ But b w w' := by
  subst hq hr
  by_cases h : 1 < n
  · have e : dgt n k = [48 + (k : Int)] := by unfold dgt; rw [if_pos h]
    rw [e]
    clear e
    have h1 := hm.out
    have h2 := hm.ouf
    have hz1 := strs_size T
    have hz2 := strs_size [48 + (k : Int)]
    have HM := hide hm
    have HA := hide (strs_append T [48 + (k : Int)])
    have hcv := conv_drew w (48 + (k : Int))
    have hblt := hm.lt
    have hba : Below w.heap.size w (w.alloc (.cells #[.int .u8 (48 + (k : Int))] 5)).drew := ((Below.refl w.heap.size w).alloc (Nat.le_refl _) _).drew
    have h1a := (hba.cell (p := ⟨b, 30, none⟩) hblt).trans h1
    have h2a := (hba.frozen (p := ⟨b, 30, none⟩) hblt).trans h2
    have hwr1 : IntKind.i64.wrap (48 + (k : Int)) = 48 + (k : Int) := by simp [IntKind.wrap, IntKind.signed, IntKind.bits]; omega
    have hwr2 : IntKind.u8.wrap (48 + (k : Int)) = 48 + (k : Int) := by simp [IntKind.wrap, IntKind.signed, IntKind.bits]; omega
    go_enter Tryz.func77, Tryz.ntmps77
    go_wp2
    go_region
    go_wp2
    go_end0
    rw [unhide HA]
    exact ⟨rfl, ((unhide HM).puts _).below (((Below.refl _ _).alloc (Nat.le_refl _) _).drew), (But.set _ _ _ _).trans (But.of (((Below.refl _ _).alloc (Nat.le_refl _) _).drew))⟩
  · have e : dgt n k = [] := by unfold dgt; rw [if_neg h]
    rw [e, List.append_nil]
    clear e
    go_enter Tryz.func77, Tryz.ntmps77
    go_wp2
    go_end0
    exact ⟨rfl, hm, But.refl _ _⟩
end
/-- what recalling leaves -/
def OutRR (b : Nat) (s t : ByteArray) (m B g : Nat) (w : World) (j : Nat) (T : List Int) (e : Ending) (w' : World) : Prop :=
  e = .returned (.tuple #[]) ∧ Rm w' b s t m B g j T ∧ But b w w' ∧ T.length ≤ j
/-- expressions, to this depth -/
def SaidRR (b : Nat) (s t : ByteArray) (m B g : Nat) (n : Nat) : Prop :=
  ∀ (lq : Int) (p x k l i j h : Nat) (T : List Int) (w : World), Rm w b s t m B g i T → EA w s k (fun j => j < B) p x → lq = l → x ≤ s.size → (sts s x).length ≤ 10 → l ≤ 9 → pE s t 0 n x i = some (j, h) → h ≤ l → T.length ≤ i →
    Calls Tryz.prog 75 #[.pointer (some ⟨b, 0, none⟩), .pointer (some ⟨p, 0, none⟩), .int .i64 lq] w fun e w' => OutRR b s t m B g w j (T ++ dE s t m n l x i) e w'
/-- what stands beside the reference's recaller -/
structure Eq2 (s t : ByteArray) (m : Nat) : Prop where
  gram : Gram s
  ten : Ten s
  ht : t.size ≤ 2000
  hm : 1 ≤ m ∧ m ≤ 5
  gd : Good t m 0 t.size
section
variable {b : Nat} {s t : ByteArray} {m B g : Nat}
theorem fac_one (w : World) (x : Int) (sv : Value) (u : TypeId) :
    Below w.heap.size w (w.alloc (.cells #[.int .u8 x, sv] u)) ∧ (w.alloc (.cells #[.int .u8 x, sv] u)).cell? ⟨w.heap.size, 0, none⟩ = some (.int .u8 x) ∧ (w.alloc (.cells #[.int .u8 x, sv] u)).cell? ⟨w.heap.size, 1, none⟩ = some sv ∧ (w.alloc (.cells #[.int .u8 x, sv] u)).heap.size = w.heap.size + 1 := by
  refine ⟨(Below.refl _ _).alloc (Nat.le_refl _) _, ?_, ?_, by simp⟩
  · rw [World.cell?_alloc_new]; rfl
  · rw [World.cell?_alloc_new]; rfl

theorem Rm.takeI {w : World} {i : Nat} {T : List Int} (h : Rm w b s t m B g i T) (j : Nat) {x : Int} (e : x = (j : Int)) : Rm (w.setCell ⟨b, 29, none⟩ (.int .i64 x)) b s t m B g j T := by rw [e]; exact h.take j

set_option maxHeartbeats 1000000 in
set_option maxRecDepth 1000000 in
theorem rrfac_letter (lq : Int) (f i : Nat) (T : List Int) (w : World) (hk : Rm w b s t m B g i T) (h2 : cN (bt s f) = false) (hi : i ≤ 2000) (hT : T.length ≤ i) :
    Calls Tryz.prog 37 #[.pointer (some ⟨b, 0, none⟩), .agg #[.int .u8 (bt s f), .pointer none], .int .i64 lq] w fun e w' => OutRR b s t m B g w (i + 1) T e w' := by
  have hblt := hk.lt
  obtain ⟨s1, s2, s3, s4⟩ := fac_one w (bt s f) (.pointer none) 67
  have HK := hide (hk.below s1)
  have HS1 := hide s1
  have h2' := hide h2
  have hbz : b ≠ w.heap.size := by omega
  clear h2 hk s1
  go_enter Tryz.func37, Tryz.ntmps37
  go_wp2_with fail
  generalize w.alloc (.cells #[.int .u8 (bt s f), .pointer none] 67) = w0 at *
  have c29 := (unhide HK).tak
  have f29 := (unhide HK).tkf
  have HT1 := hide ((unhide HK).takeI (i + 1) (x := (i : Int) + 1) (by omega))
  refine (name_any _ _).mono ?_
  rw [unhide h2']
  rintro e w' ⟨rfl, hw⟩
  replace hw := hw.symm; subst hw
  go_wp2
  go_end0
  exact ⟨rfl, unhide HT1, (But.of (unhide HS1)).trans (But.set _ _ _ _), by omega⟩

set_option maxHeartbeats 1000000 in
set_option maxRecDepth 1000000 in
theorem rrfac_name (v : Eq2 s t m) {n : Nat} (hE : SaidRR b s t m B g n) (lq : Int) (f l i a k0 : Nat) (T : List Int) (w : World) (hk : Rm w b s t m B g i T) (hl : lq = l) (hl9 : l ≤ 9) (h2 : cN (bt s f) = true)
    (hq : pE s t 0 n (rl s (bt s f) + 2).toNat (i + 2) = some (a, k0)) (hal : a < t.size) (hkl : k0 + 1 ≤ l) (hT : T.length ≤ i) :
    Calls Tryz.prog 37 #[.pointer (some ⟨b, 0, none⟩), .agg #[.int .u8 (bt s f), .pointer none], .int .i64 lq] w fun e w' => OutRR b s t m B g w (a + 1) (T ++ dE s t m n (l - 1) (rl s (bt s f) + 2).toNat (i + 2)) e w' := by
  subst hl
  have ht := v.ht
  obtain ⟨j, j1, j2, j3, j4, j5⟩ := name_place' v.gram v.ten h2
  have hfw := (pE_fwd s t 0 n _ _ a k0 hq).1
  rw [j5] at hq ⊢
  generalize hR : T ++ dE s t m n (l - 1) (j + 2) (i + 2) = R
  have HR := hide hR
  have HQ := hide hq
  have H10 := hide j4
  have hv : 65 ≤ bt s f ∧ bt s f ≤ 90 := by simpa [cN] using h2
  obtain ⟨hv1, hv2⟩ := hv
  have hblt := hk.lt
  obtain ⟨s1, s2, s3, s4⟩ := fac_one w (bt s f) (.pointer none) 67
  have HK := hide (hk.below s1)
  have HS1 := hide s1
  have h2' := hide h2
  clear hR hk s1 h2 j4 j5 hq
  go_enter Tryz.func37, Tryz.ntmps37
  go_wp2_with fail
  generalize w.alloc (.cells #[.int .u8 (bt s f), .pointer none] 67) = w0 at *
  have c29 := (unhide HK).tak
  have f29 := (unhide HK).tkf
  refine (name_any _ _).mono ?_
  rw [unhide h2']
  rintro e w' ⟨rfl, hw⟩
  replace hw := hw.symm; subst hw
  go_wp2_with fail
  have HK2 := hide (((unhide HK).takeI (i + 1) (x := (i : Int) + 1) (by omega)).takeI (i + 2) (x := (i : Int) + 1 + 1) (by omega))
  have HB2 := hide (((But.of (b := b) (unhide HS1)).trans (But.set b 29 w0 (.int .i64 ((i : Int) + 1)))).trans (But.set b 29 _ (.int .i64 ((i : Int) + 1 + 1))))
  have e00 := (((But.set b 29 w0 (.int .i64 ((i : Int) + 1))).trans (But.set b 29 _ (.int .i64 ((i : Int) + 1 + 1)))).cell (g := w.heap.size) (o := 0) (by omega) (by omega)).trans s2
  have hz2 := ((But.set b 29 w0 (.int .i64 ((i : Int) + 1))).trans (But.set b 29 _ (.int .i64 ((i : Int) + 1 + 1)))).size
  generalize (w0.setCell ⟨b, 29, none⟩ (.int .i64 ((i : Int) + 1))).setCell ⟨b, 29, none⟩ (.int .i64 ((i : Int) + 1 + 1)) = w2 at *
  have gp := (unhide HK2).gp
  obtain ⟨p, k, j', i1, i2, i3, i4⟩ := (unhide HK2).gr.rules f (unhide h2')
  have ejj : j' = j := by omega
  subst ejj
  have HEA := hide i4
  have hgb : g ≠ b := by have := (unhide HK2).gr.lt; have := (unhide HK2).hB; omega
  have hgl : g < w2.heap.size := by have := (unhide HK2).gr.lt; have := (unhide HK2).hB; have := (unhide HK2).lt; omega
  have hz3 : w.heap.size < w2.heap.size := by omega
  have hBw : B ≤ w2.heap.size := by have := (unhide HK2).hB; have := (unhide HK2).lt; omega
  have hix : bt s f - 65 < 26 := by omega
  have hix0 : 0 ≤ bt s f - 65 := by omega
  have hwr : IntKind.u8.wrap (bt s f - 65) = bt s f - 65 := by simp [IntKind.wrap, IntKind.signed, IntKind.bits]; omega
  have hw2 : IntKind.i64.wrap ((l : Int) - 1) = (l : Int) - 1 := by simp [IntKind.wrap, IntKind.signed, IntKind.bits]; omega
  clear i1 i4 c29 f29 s2 s3
  go_region_held (fun w' => w'.cell? ⟨b, 0, none⟩ = some (.pointer (some ⟨g, 0, none⟩)) ∧ w'.cell? ⟨g, (bt s f - 65).toNat, none⟩ = some (.pointer (some ⟨p, 0, none⟩)) ∧ w'.cell? ⟨w.heap.size, 0, none⟩ = some (.int .u8 (bt s f))) (first | exact ⟨gp, i3, e00⟩ | exact ⟨hk3.gp, (hb3.cell (g := g) hgb hgl).trans i3, (hb3.cell (g := w.heap.size) (Nat.ne_of_gt hblt) hz3).trans e00⟩) (first | (go_at_call 75; refine (hE _ p (j' + 2) k (l - 1) (i + 2) a k0 T _ (unhide HK2).drew ((unhide HEA).below ((Below.refl _ _).drew) hBw) ?_ j3 (unhide H10) ?_ (unhide HQ) ?_ ?_).mono ?_; omega; omega; omega; omega; rw [unhide HR]; rintro e w3 ⟨rfl, hk3, hb3, hT3⟩))
  have HK3 := hide hk3
  have HB3 := hide (((unhide HB2).trans (But.of ((Below.refl _ _).drew))).trans hb3)
  have c29 := hk3.tak
  have f29 := hk3.tkf
  have HT3 := hide (hk3.takeI (a + 1) (x := (a : Int) + 1) (by omega))
  clear hk3 hb3 gp i3 e00 hwr hw2
  go_wp2
  go_end0
  exact ⟨rfl, unhide HT3, (unhide HB3).trans (But.set _ _ _ _), by omega⟩
end
end Go.Proofs.YtnfaiaoipeholaaGreatDoor
