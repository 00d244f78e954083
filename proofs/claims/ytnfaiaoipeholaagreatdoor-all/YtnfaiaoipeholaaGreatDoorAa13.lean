/- RFits RFit RMaker -/
import Derived.Test.YtnfaiaoipeholaaGreatDoorAa08
import Derived.Test.YtnfaiaoipeholaaGreatDoorAa12
import Derived.Deep.AppendLies
namespace Go.Proofs.YtnfaiaoipeholaaGreatDoor

theorem occ_rl {s : ByteArray} (g : Gram s) {i : Nat} (h : Occ s i) : i < 26 ∧ ∃ j : Nat, rl s (65 + i : Nat) = (j : Int) ∧ j < s.size ∧ begB s j = true ∧ bt s j = (65 + i : Nat) := by
  obtain ⟨f, hf, hi⟩ := h
  have hv : 65 ≤ bt s f ∧ bt s f ≤ 90 := by simpa [cN] using hf
  have e : bt s f = ((65 + i : Nat) : Int) := by omega
  obtain ⟨j, h1, h2, h3, h4⟩ := g.name f hf
  rw [e] at h1 h4
  exact ⟨by omega, j, h1, h2, h3, h4⟩

def Snd (s : ByteArray) (nm : Nat → Int) : Prop := ∀ i, Occ s i → ∀ l : Nat, l ≤ 90 → nm i < l → nFit s l i = true
theorem snd_step {s : ByteArray} {nm : Nat → Int} (hn : Nms nm) (h : Snd s nm) (i : Nat) : Snd s (lowStep s nm i) := by
  unfold lowStep; split
  · exact h
  · intro j hj l hl hlt
    unfold nmU at hlt
    split at hlt
    · rename_i e
      subst e
      have hb := low_bd (s := s) hn (rl s (65 + j : Nat) + 2).toNat
      obtain ⟨m, rfl⟩ : ∃ m, l = m + 1 := ⟨l - 1, by omega⟩
      have h1 := (low_fit (s := s) (nm := nm) (l := (m : Nat)) (by omega) (by omega) (rl s (65 + j : Nat) + 2).toNat).1 (by omega)
      show expFit s (nFit s m) _ = true
      refine expFit_mono (fun k hk hd => ?_) h1
      simp only [decide_eq_true_eq] at hd
      exact h k hk m (by omega) (by omega)
    · exact h j hj l hl hlt
theorem snd_row {s : ByteArray} {nm : Nat → Int} (hn : Nms nm) (h : Snd s nm) : ∀ n, Snd s (lowRow s nm n)
  | 0 => h
  | n + 1 => snd_step (nms_row hn n) (snd_row hn h n) n
theorem snd_lows (s : ByteArray) : ∀ r, Snd s (lowsF s r)
  | 0 => fun i _ l hl hlt => by have : (99 : Int) < l := hlt; omega
  | r + 1 => snd_row (nms_lows s r) (snd_lows s r) 26

def Cmp (s : ByteArray) (nm : Nat → Int) (i r : Nat) : Prop := ∀ l : Nat, l ≤ r → nFit s l i = true → nm i < l
theorem cmp_row {s : ByteArray} (g : Gram s) {nm : Nat → Int} {r : Nat} (hr : r ≤ 30) (hn : Nms nm) (h : ∀ i, Occ s i → Cmp s nm i r) : ∀ n, ∀ i, Occ s i → Cmp s (lowRow s nm n) i (if i < n then r + 1 else r)
  | 0, i, hi => by simpa [lowRow] using h i hi
  | n + 1, i, hi => by
    have ih := cmp_row g hr hn h n
    have hall : ∀ j, Occ s j → Cmp s (lowRow s nm n) j r := fun j hj l hl hf => ih j hj l (by split <;> omega) hf
    show Cmp s (lowStep s (lowRow s nm n) n) i _
    obtain ⟨_, j, hj, _⟩ := occ_rl g hi
    unfold lowStep
    split
    · rename_i hm
      intro l hl hf
      by_cases e : i = n
      · subst e; omega
      · exact ih i hi l (by split at hl <;> split <;> omega) hf
    · intro l hl hf
      unfold nmU
      split
      · rename_i e
        subst e
        rw [if_pos (by omega)] at hl
        cases l with
        | zero => cases hf
        | succ m =>
          have h1 : expFit s (fun k => decide (lowRow s nm i k + 1 ≤ (m : Nat))) (rl s (65 + i : Nat) + 2).toNat = true := by
            refine expFit_mono (fun k hk hd => ?_) hf
            have := hall k hk m (by omega) hd
            simp only [decide_eq_true_eq]; omega
          have := (low_fit (s := s) (nm := lowRow s nm i) (l := (m : Nat)) (by omega) (by omega) _).2 h1
          omega
      · exact ih i hi l (by split at hl <;> split <;> omega) hf
theorem cmp_lows {s : ByteArray} (g : Gram s) : ∀ r, r ≤ 30 → ∀ i, Occ s i → Cmp s (lowsF s r) i r
  | 0, _, i, hi => fun l hl hf => by
    have : l = 0 := by omega
    subst this; cases hf
  | r + 1, hr, i, hi => by
    have := cmp_row g (by omega) (nms_lows s r) (cmp_lows g r (by omega)) 26 i hi
    rw [if_pos (occ_rl g hi).1] at this
    exact this
/-- by name -/
theorem lows_fit {s : ByteArray} (g : Gram s) {i l : Nat} (hi : Occ s i) (hl : l ≤ 20) : (lowsF s 27 i < (l : Nat)) ↔ nFit s l i = true :=
  ⟨snd_lows s 27 i hi l (by omega), cmp_lows g 27 (by omega) i hi l (by omega)⟩
/-- of an expression -/
theorem low_nFit {s : ByteArray} (g : Gram s) {l : Nat} (hl : l ≤ 20) (x : Nat) : (low s (lowsF s 27) x ≤ (l : Nat)) ↔ expFit s (nFit s l) x = true := by
  rw [low_fit (by omega) (by omega)]
  have : expFit s (fun i => decide (lowsF s 27 i + 1 ≤ (l : Nat))) x = expFit s (nFit s l) x := expFit_congr (fun i hi => by
    rw [Bool.eq_iff_iff, ← lows_fit g hi hl]; simp only [decide_eq_true_eq]; omega) x
  rw [this]
/-- of an alternative -/
theorem alt_nFit {s : ByteArray} (g : Gram s) {l : Nat} (hl : l ≤ 20) (L : List Nat) : (altH s (lowsF s 27) (low s (lowsF s 27)) L ≤ (l : Nat)) ↔ altFit s (nFit s l) (expFit s (nFit s l)) L = true := by
  rw [altH_fit' (by omega) (by omega)]
  have : altFit s (fun i => decide (lowsF s 27 i + 1 ≤ (l : Nat))) (expFit s (fun i => decide (lowsF s 27 i + 1 ≤ (l : Nat)))) L = altFit s (nFit s l) (expFit s (nFit s l)) L := altFit_cong (fun i hi => by
    rw [Bool.eq_iff_iff, ← lows_fit g hi hl]; simp only [decide_eq_true_eq]; omega) L
  rw [this]
end Go.Proofs.YtnfaiaoipeholaaGreatDoor

namespace Go.Proofs.YtnfaiaoipeholaaGreatDoor
open Go.RowKit

/-- the least height of the alternative with a number -/
def altAt (s : ByteArray) (nm : Nat → Int) (x k : Nat) : Int := altH s nm (low s nm) (fe s ((sts s x).getD k 0)).1
/-- the alternatives that fit, of the first so many -/
def fitK (s : ByteArray) (nm : Nat → Int) (x : Nat) (room : Int) (n : Nat) : List Nat := (List.range n).filter fun k => decide (altAt s nm x k ≤ room)
def fits (s : ByteArray) (nm : Nat → Int) (x : Nat) (room : Int) : List Nat := fitK s nm x room (sts s x).length
theorem fitK_yes {s : ByteArray} {nm : Nat → Int} {x : Nat} {room : Int} {n : Nat} (h : altAt s nm x n ≤ room) : fitK s nm x room (n + 1) = fitK s nm x room n ++ [n] := by
  unfold fitK; rw [List.range_succ, List.filter_append]; simp [h]
theorem fitK_no {s : ByteArray} {nm : Nat → Int} {x : Nat} {room : Int} {n : Nat} (h : ¬ altAt s nm x n ≤ room) : fitK s nm x room (n + 1) = fitK s nm x room n := by
  unfold fitK; rw [List.range_succ, List.filter_append]; simp [h]
theorem fitK_len (s : ByteArray) (nm : Nat → Int) (x : Nat) (room : Int) (n : Nat) : (fitK s nm x room n).length ≤ n := by
  have := List.length_filter_le (fun k => decide (altAt s nm x k ≤ room)) (List.range n); simpa [fitK] using this
theorem Tryz.infoInt2 : (Tryz.prog.info? 3).map (fun i => (i.zero, i.size, i.bytes)) = some (some (.int .i64 0), 1, 8) := by kernel_rfl

/-- a list of numbers as cells -/
def ints (l : List Nat) : List Value := l.map fun k : Nat => Value.int .i64 (k : Int)
theorem ints_push (l : List Nat) (k : Nat) : ints (l ++ [k]) = ints l ++ [.int .i64 (k : Int)] := by simp [ints]

/-- what fitting answers -/
def OutF (s : ByteArray) (nm : Nat → Int) (x : Nat) (room : Int) (w : World) (e : Ending) (w' : World) : Prop :=
  ∃ v, e = .returned v ∧ w'.ownsRow (w.heap.size + 1) 3 1 v (fits s nm x room).length (ints (fits s nm x room)) ∧ Below w.heap.size w w'

set_option maxHeartbeats 1000000 in
set_option maxRecDepth 1000000 in
theorem fitting_any {s : ByteArray} (hs : s.size ≤ 300) {nm : Nat → Int} (hnm : Nms nm) {B m p x : Nat} (room : Int) (w : World) (hB : B ≤ w.heap.size) (hE : EA w s (m + 1) (fun b => b < B) p x) :
    Calls Tryz.prog 129 #[.pointer (some ⟨p, 0, none⟩), .agg (nms nm).toArray, .int .i64 room] w fun e w' => OutF s nm x room w e w' := by
  have hA := alt_all hs hnm (B := B) m
  obtain ⟨hp, N, gv, cap, hN0, hN4, hcp, hgv, hNn, hall⟩ := hE
  have hlb := low_bd (s := s) hnm
  have hsts : (sts s x).length = N := by
    have h1 : (sts s x)[N]? = none := by rw [← sts_ap]; exact hNn
    have h2 : N ≤ (sts s x).length := by
      obtain ⟨a, _, h3, _⟩ := hall (N - 1) (by omega)
      rw [sts_ap] at h3
      have := (List.getElem?_eq_some_iff.1 h3).1
      omega
    have h3 := List.getElem?_eq_none_iff.1 h1
    omega
  have HS := hide hsts
  have HALL := hide hall
  have hpl : p < w.heap.size := Nat.lt_of_lt_of_le hp hB
  have hgl : gv < w.heap.size := Nat.lt_of_lt_of_le hgv hB
  obtain ⟨i1, hi1, hy0, hy1, hy2⟩ := info_parts Tryz.infoInt2
  clear hNn hall hsts
  go_enter Tryz.func129, Tryz.ntmps129
  go_wp2
  go_loopw [7, 8] (fun ov iv wr => ∃ k : Nat, iv = .int .i64 k ∧ k ≤ N ∧ wr.ownsRow (w.heap.size + 1) 3 1 ov (fitK s nm x room k).length (ints (fitK s nm x room k)) ∧ Below (w.heap.size + 1) (w.alloc (.cells (nms nm).toArray 57)) wr) (fun _ iv _ => 500 - (intOf iv).toNat)
  case atStart => exact ⟨0, rfl, Nat.zero_le _, World.ownsRow_nil (w.alloc (.cells (nms nm).toArray 57)) (w.heap.size + 1) 3 1, Below.refl _ _⟩
  case round =>
    obtain ⟨k, rfl, hk, hown, hb⟩ := hrel
    have hsz := hb.size
    have hsz' : w.heap.size < wr.heap.size := by have := hsz; simp at this; omega
    have hbw : Below w.heap.size w wr := ((Below.refl _ _).alloc (Nat.le_refl _) _).trans (hb.mono (by omega))
    have HRG := hide (range_below (range_alloc w (nms nm) _) (by simpa using hb) : wr.rangeAt w.heap.size 0 (nms nm))
    have HBW := hide hbw
    have HB := hide hb
    have HO := hide hown
    have d0 := (hbw.cell (p := ⟨p, 0, none⟩) hpl).trans hcp
    have hfl := fitK_len s nm x room k
    by_cases hkl : k < N
    · obtain ⟨a, va, hap, hca, hAA⟩ := unhide HALL k hkl
      rw [sts_ap] at hap
      have hka : (sts s x).getD k 0 = a := by rw [List.getD_eq_getElem?_getD, hap]; rfl
      clear hap
      have d1 := (hbw.cell (p := ⟨gv, k, none⟩) hgl).trans hca
      have hlen := fe_len s a
      have HMEM : Hid (∀ f ∈ (fe s a).1, isF s f = true) := hide (fun f hf => (fe_mem hf).1)
      have HWB := hide (Nat.le_trans hB hbw.size)
      have HAA := hide (hAA.frame (w' := wr) (S' := fun b => b < B) (sub' := EA wr s m (fun b => b < B)) (fun b hbb => hbw.block b (Nat.lt_of_lt_of_le hbb hB)) (fun _ h => h) (fun p x h => h.below hbw hB))
      obtain ⟨ao, ca, rfl, _⟩ := hAA
      have HAL : Hid (altH s nm (low s nm) (fe s a).1 = altAt s nm x k) := hide (by unfold altAt; rw [hka])
      clear hbw hb hown hka
      go_wp2
      have hu := Tryz.underlying57
      have hin : (Tryz.prog.info? 57).map (·.size) = some (nms nm).length := by rw [nms_len]; exact Tryz.infoArr
      have hnl := nms_len nm
      have hno := nms_one nm
      go_region_held (fun w' => Below wr.heap.size wr w' ∧ w'.cell? ⟨p, 0, none⟩ = some (.slice (some ⟨gv, 0, none⟩) N cap) ∧ w'.cell? ⟨gv, k, none⟩ = some (.slice ao (fe s a).1.length ca) ∧ w'.rangeAt w.heap.size 0 (nms nm)) (first | exact keepL ((Below.refl _ _).drew) d0 d1 (unhide HRG) | exact keepL (((Below.refl wr.heap.size wr).drew).trans hb2) d0 d1 (unhide HRG)) (first | (go_at_call 128; refine (hA _ (fe s a).1 _ ?_ ?_ (unhide HMEM) ?_).mono ?_; exact unhide HWB; omega; exact (unhide HAA).frame (fun _ _ => rfl) (fun _ h => h) (fun p x h => h.below ((Below.refl _ _).drew) (unhide HWB)); rw [unhide HAL]; rintro e w2 ⟨rfl, hb2⟩))
      have HB2 := hide hb2
      have hsz2 : wr.heap.size ≤ w2.heap.size := hb2.size
      have hown2 : w2.ownsRow (w.heap.size + 1) 3 1 u7 (fitK s nm x room k).length (ints (fitK s nm x room k)) := (unhide HO).kept (row := none) ⟨hb2.os, hb2.tape, hb2.output, hb2.size, fun k hk _ => hb2.block k hk⟩ (by cases hv : u7.ownBlock <;> simp)
      clear hu hin hnl hno hb2
      by_cases hle : altAt s nm x k ≤ room
      · have HLE := hide hle
        go_wp2_with (first | (at_builtin; refine wpList_append_lies _ rfl _ _ 92 rfl (w.heap.size + 1) 3 i1 (.int .i64 0) 1 8 Tryz.underlying92 hi1 hy0 hy1 hy2 rfl (by decide) _ _ _ rfl (hown2.alloc _) ⟨_, 0, none⟩ 1 1 [.int .i64 (k : Int)] rfl rfl ?c1 ?c2 ?c3 ?c4 ?c5 ?c6 _ rfl ?_) | go_in)
        case c1 => exact World.news_of_block (heap_alloc_new _ _)
        case c2 => intro u hu; simp at hu; subst hu; rfl
        case c3 => omega
        case c4 => unfold maxLen; omega
        case c5 => omega
        case c6 => simp; omega
        · intro g1 cap1 w3 hown3 hg3 hb3 hlt3
          have HO3 := hide hown3
          have HG3 := hide hg3
          clear hown3 hg3 hb3 hlt3
          go_wp2
          go_roundw
          case rel =>
            refine ⟨k + 1, by go_num, by omega, ?_, ?_⟩
            · rw [fitK_yes (unhide HLE), ints_push]; simpa using unhide HO3
            · exact ((((unhide HB).drew).trans ((unhide HB2).mono (by show w.heap.size + 1 ≤ wr.heap.size; omega))).alloc (by omega) _).grown (unhide HG3) (by simp; omega) (fun j hj => (hown2.lt j hj).1)
          case measure => simp [intOf]; omega
      · have HLE := hide hle
        go_wp2
        go_roundw
        case rel => exact ⟨k + 1, by go_num, by omega, by rw [fitK_no (unhide HLE)]; exact hown2, ((unhide HB).drew).trans ((unhide HB2).mono (by show w.heap.size + 1 ≤ wr.heap.size; omega))⟩
        case measure => simp [intOf]; omega
    · have hkN : k = N := by omega
      clear hbw hb hown
      go_wp2
      go_ret
      refine ⟨_, rfl, ?_, unhide HBW⟩
      unfold fits
      rw [unhide HS, ← hkN]
      exact unhide HO
end Go.Proofs.YtnfaiaoipeholaaGreatDoor

namespace Go.Proofs.YtnfaiaoipeholaaGreatDoor
open Go.RowKit

/-- what stands beside the reference's maker -/
structure Er (s c : ByteArray) (m : Nat) : Prop where
  gram : Gram s
  ten : Ten s
  dg : digs c = true
  hc : c.size ≤ 2000
  hm : 1 ≤ m ∧ m ≤ 5
/-- what a making leaves -/
def OutR (b : Nat) (s c : ByteArray) (m B g : Nat) (w : World) (T : List Int) (p : Nat × List Int) (X : Nat) (e : Ending) (w' : World) : Prop :=
  e = .returned (.tuple #[]) ∧ ∃ a' T', Rm w' b s c m B g a' T' ∧ But b w w' ∧ Ends T p a' T' ∧ a' ≤ T'.length ∧ T'.length ≤ X
/-- expressions, to this depth -/
def SaidR (b : Nat) (s c : ByteArray) (m B g : Nat) (n : Nat) : Prop :=
  ∀ (lq : Int) (p x k l a : Nat) (T : List Int) (w : World), Rm w b s c m B g a T → EA w s k (fun j => j < B) p x → lq = l → x ≤ s.size → (sts s x).length ≤ 10 → l ≤ 9 → expFit s (nFit s l) x = true → dep s l x < n → T.length ≤ 8000000 → a ≤ T.length →
    Calls Tryz.prog 72 #[.pointer (some ⟨b, 0, none⟩), .pointer (some ⟨p, 0, none⟩), .int .i64 lq] w fun e w' => OutR b s c m B g w T (genE s c m n l x a) (max T.length (2001 + 1000 * n)) e w'

section
variable {b : Nat} {s c : ByteArray} {m B g : Nat}

theorem nFit_pos' {l i : Nat} (h : nFit s l i = true) : 0 < l := by
  cases l with
  | zero => cases h
  | succ l => omega
/-- a name's expression -/
theorem name_place' (g : Gram s) (ten : Ten s) {f : Nat} (hf : cN (bt s f) = true) : ∃ j : Nat, rl s (bt s f) = (j : Int) ∧ j < s.size ∧ j + 2 ≤ s.size ∧ (sts s (j + 2)).length ≤ 10 ∧ (rl s (bt s f) + 2).toNat = j + 2 := by
  obtain ⟨j, h1, h2, h3, _⟩ := g.name f hf
  exact ⟨j, h1, h2, (g.rule j h2 h3).2.2.1, ten.rule j h2 h3, by omega⟩
theorem name_fit' {l f : Nat} (hf : cN (bt s f) = true) (h : nFit s l (bt s f - 65).toNat = true) : expFit s (nFit s (l - 1)) (rl s (bt s f) + 2).toNat = true := by
  have hv : 65 ≤ bt s f ∧ bt s f ≤ 90 := by simpa [cN] using hf
  cases l with
  | zero => cases h
  | succ l =>
    have e : ((65 + (bt s f - 65).toNat : Nat) : Int) = bt s f := by omega
    have h' : expFit s (nFit s l) (rl s (65 + (bt s f - 65).toNat : Nat) + 2).toNat = true := h
    rw [e] at h'; exact h'
/-- a cell and the array, wherever it begins -/
theorem keepO {wr w2 : World} {ga o nb no : Nat} {u : Value} {cs : List Value} (h : Below wr.heap.size wr w2) (e1 : wr.cell? ⟨ga, o, none⟩ = some u) (hr : wr.rangeAt nb no cs) :
    Below wr.heap.size wr w2 ∧ w2.cell? ⟨ga, o, none⟩ = some u ∧ w2.rangeAt nb no cs :=
  ⟨h, (h.cell (p := ⟨ga, o, none⟩) (World.block_lt_of_cell? wr _ e1)).trans e1, range_below hr h⟩
theorem EA.but {w w1 : World} {s : ByteArray} {b B n p x : Nat} (h : EA w s n (fun j => j < B) p x) (hb : But b w w1) (hB : B ≤ b) (hlt : b ≤ w.heap.size) : EA w1 s n (fun j => j < B) p x :=
  EA.frame (fun j hj => (hb.below hB hlt).block j hj) (fun _ h => h) n n p x (Nat.le_refl _) h
/-- the factor's own block, and one byte behind it -/
theorem fac_start (w : World) (x : Int) (sv : Value) (t u : TypeId) :
    Below w.heap.size w ((w.alloc (.cells #[.int .u8 x, sv] t)).alloc (.cells #[.int .u8 x] u)) ∧ ((w.alloc (.cells #[.int .u8 x, sv] t)).alloc (.cells #[.int .u8 x] u)).cell? ⟨w.heap.size, 0, none⟩ = some (.int .u8 x) ∧ ((w.alloc (.cells #[.int .u8 x, sv] t)).alloc (.cells #[.int .u8 x] u)).cell? ⟨w.heap.size, 1, none⟩ = some sv ∧
      ((w.alloc (.cells #[.int .u8 x, sv] t)).alloc (.cells #[.int .u8 x] u)).heap.size = w.heap.size + 2 := by
  refine ⟨((Below.refl _ _).alloc (Nat.le_refl _) _).alloc (by simp) _, ?_, ?_, by simp⟩
  · rw [World.cell?_alloc_old _ _ _ (by simp), World.cell?_alloc_new]; rfl
  · rw [World.cell?_alloc_old _ _ _ (by simp), World.cell?_alloc_new]; rfl

set_option maxHeartbeats 1000000 in
set_option maxRecDepth 1000000 in
theorem rfac_letter {n : Nat} (lq : Int) (f l a : Nat) (T : List Int) (w : World) (hk : Rm w b s c m B g a T) (h2 : cN (bt s f) = false) (h3 : cO (bt s f) = false) (hT : T.length ≤ 8000100) (ha : a ≤ T.length) :
    Calls Tryz.prog 36 #[.pointer (some ⟨b, 0, none⟩), .agg #[.int .u8 (bt s f), .pointer none], .int .i64 lq] w fun e w' => OutR b s c m B g w T (genF s c m (genE s c m n) l f a) (max T.length (2001 + 1000 * n) + 3) e w' := by
  have hR : genF s c m (genE s c m n) l f a = (a, [bt s f]) := by unfold genF; rw [if_neg (by simp [h2]), if_neg (by simp [h3])]
  rw [hR]
  have hblt := hk.lt
  have hcv := conv_one (w.alloc (.cells #[.int .u8 (bt s f), .pointer none] 67)) (bt s f)
  rw [World.size_alloc] at hcv
  obtain ⟨s1, s2, s3, s4⟩ := fac_start w (bt s f) (.pointer none) 67 5
  have HK := hide (hk.below s1)
  have HS1 := hide s1
  have h2' := hide h2
  clear h2 h3 hR hk s1
  go_enter Tryz.func36, Tryz.ntmps36
  go_wp2_with (first
    | (go_at_call 31; refine (name_any _ _).mono ?_; rw [unhide h2']; rintro e w' ⟨rfl, hw⟩; replace hw := hw.symm; subst hw)
    | fail)
  refine (put_any (unhide HK) (by omega) [bt s f] _ rfl (by simp)).mono ?_
  rintro e w1 ⟨rfl, hk1, hb1⟩
  have e0 := (hb1.cell (g := w.heap.size) (o := 0) (by omega) (by omega)).trans s2
  have e1 := (hb1.cell (g := w.heap.size) (o := 1) (by omega) (by omega)).trans s3
  have HK1 := hide hk1
  have HB1 := hide ((But.of (b := b) (unhide HS1)).trans hb1)
  clear hcv s2 s3 hk1 hb1
  go_wp2
  go_end0
  exact ⟨rfl, a, _, unhide HK1, unhide HB1, Ends.put T [bt s f] a, by simp; omega, by simp; omega⟩

set_option maxHeartbeats 1000000 in
set_option maxRecDepth 1000000 in
theorem rfac_name (v : Er s c m) {n : Nat} (hn : n ≤ 5000) (hE : SaidR b s c m B g n) (lq : Int) (f l a : Nat) (T : List Int) (w : World) (hk : Rm w b s c m B g a T) (hl : lq = l) (hl9 : l ≤ 9) (h2 : cN (bt s f) = true) (hfit : nFit s l (bt s f - 65).toNat = true)
    (hd : ∀ y, dep s (l - 1) y < n) (hT : T.length ≤ 7000000) (ha : a ≤ T.length) :
    Calls Tryz.prog 36 #[.pointer (some ⟨b, 0, none⟩), .agg #[.int .u8 (bt s f), .pointer none], .int .i64 lq] w fun e w' => OutR b s c m B g w T (genF s c m (genE s c m n) l f a) (max T.length (2001 + 1000 * n) + 3) e w' := by
  subst hl
  generalize hR : genF s c m (genE s c m n) l f a = R
  unfold genF genN at hR
  rw [if_pos h2] at hR
  have hpos := nFit_pos' hfit
  obtain ⟨j, j1, j2, j3, j4, j5⟩ := name_place' v.gram v.ten h2
  have H10 := hide j4
  have hex := name_fit' h2 hfit
  rw [j5] at hex hR
  have hv : 65 ≤ bt s f ∧ bt s f ≤ 90 := by simpa [cN] using h2
  obtain ⟨hv1, hv2⟩ := hv
  have hblt := hk.lt
  have hcv := conv_one (w.alloc (.cells #[.int .u8 (bt s f), .pointer none] 67)) (bt s f)
  rw [World.size_alloc] at hcv
  obtain ⟨s1, s2, s3, s4⟩ := fac_start w (bt s f) (.pointer none) 67 5
  have HK := hide (hk.below s1)
  have HS1 := hide s1
  have h2' := hide h2
  have HR := hide hR
  have HX := hide hex
  have HD := hide (hd (j + 2))
  clear hR hk s1 hex hd hfit h2 j5 j4
  go_enter Tryz.func36, Tryz.ntmps36
  go_wp2_with (first
    | (go_at_call 31; refine (name_any _ _).mono ?_; rw [unhide h2']; rintro e w' ⟨rfl, hw⟩; replace hw := hw.symm; subst hw)
    | fail)
  refine (put_any (unhide HK) (by omega) [bt s f] _ rfl (by simp)).mono ?_
  rintro e w1 ⟨rfl, hk1, hb1⟩
  have e0 := (hb1.cell (g := w.heap.size) (o := 0) (by omega) (by omega)).trans s2
  have HK1 := hide hk1
  have HB1 := hide ((But.of (b := b) (unhide HS1)).trans hb1)
  have hz1 := hb1.size
  clear hcv s2 s3 hk1 hb1
  go_wp2_with fail
  refine (put_any (unhide HK1) (by simp; omega) [40] _ rfl (by simp)).mono ?_
  rintro e w2 ⟨rfl, hk2, hb2⟩
  have e00 := (hb2.cell (g := w.heap.size) (o := 0) (by omega) (by omega)).trans e0
  have gp := hk2.gp
  obtain ⟨p, k, j', i1, i2, i3, i4⟩ := hk2.gr.rules f (unhide h2')
  have ejj : j' = j := by omega
  subst ejj
  have HK2 := hide hk2
  have HB2 := hide ((unhide HB1).trans hb2)
  have HEA := hide i4
  have hz3 := hb2.size
  clear e0 hk2 hb2 i1 i4 HB1 HK1
  have hgb : g ≠ b := by have := (unhide HK2).gr.lt; have := (unhide HK2).hB; omega
  have hgl : g < w2.heap.size := by have := (unhide HK2).gr.lt; have := (unhide HK2).hB; have := (unhide HK2).lt; omega
  have hz2 : w.heap.size < w2.heap.size := by omega
  have hBw : B ≤ w2.heap.size := by have := (unhide HK2).hB; have := (unhide HK2).lt; omega
  have hix : bt s f - 65 < 26 := by omega
  have hix0 : 0 ≤ bt s f - 65 := by omega
  have hwr : IntKind.u8.wrap (bt s f - 65) = bt s f - 65 := by simp [IntKind.wrap, IntKind.signed, IntKind.bits]; omega
  have hw2 : IntKind.i64.wrap ((l : Int) - 1) = (l : Int) - 1 := by simp [IntKind.wrap, IntKind.signed, IntKind.bits]; omega
  go_wp2_with fail
  go_region_held (fun w' => w'.cell? ⟨b, 0, none⟩ = some (.pointer (some ⟨g, 0, none⟩)) ∧ w'.cell? ⟨g, (bt s f - 65).toNat, none⟩ = some (.pointer (some ⟨p, 0, none⟩)) ∧ w'.cell? ⟨w.heap.size, 0, none⟩ = some (.int .u8 (bt s f))) (first | exact ⟨gp, i3, e00⟩ | exact ⟨hk3.gp, (hb3.cell (g := g) hgb hgl).trans i3, (hb3.cell (g := w.heap.size) (Nat.ne_of_gt hblt) hz2).trans e00⟩) (first | (go_at_call 72; refine (hE _ p (j' + 2) k (l - 1) a _ _ (unhide HK2).drew ((unhide HEA).below ((Below.refl _ _).drew) hBw) ?_ j3 (unhide H10) ?_ (unhide HX) (unhide HD) ?_ ?_).mono ?_; omega; omega; simp; omega; simp; omega; rintro e w3 ⟨rfl, a3, T3, hk3, hb3, he3, ha3, hT3⟩))
  have HK3 := hide hk3
  have HB3 := hide (((unhide HB2).trans (But.of ((Below.refl _ _).drew))).trans hb3)
  have HE3 := hide he3
  clear hk3 hb3 he3 gp i3 e00 hwr hw2
  simp only [List.length_append, List.length_cons, List.length_nil] at hT3
  go_wp2_with fail
  refine (put_any (unhide HK3) (by omega) [41] _ rfl (by simp)).mono ?_
  rintro e w4 ⟨rfl, hk4, hb4⟩
  have HK4 := hide hk4
  have HB4 := hide ((unhide HB3).trans hb4)
  clear hk4 hb4
  go_wp2
  go_end0
  refine ⟨rfl, a3, T3 ++ [41], unhide HK4, unhide HB4, ?_, by simp; omega, by simp; omega⟩
  have h1 := ((Ends.put T [bt s f] a).seq (q := fun a => (a, [40])) (Ends.put (T ++ [bt s f]) [40] a)).seq (q := genE s c m n (l - 1) (j' + 2)) (unhide HE3)
  refine h1.seq' (q := fun a => (a, [41])) (Ends.put T3 [41] a3) ?_
  rw [← unhide HR]; simp
end
end Go.Proofs.YtnfaiaoipeholaaGreatDoor
