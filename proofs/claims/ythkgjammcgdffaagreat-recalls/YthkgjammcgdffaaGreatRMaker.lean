/- The reference's maker: factors. -/
import Derived.Test.YthkgjammcgdffaaGreatRMake
import Derived.Test.YthkgjammcgdffaaGreatRFits
import Derived.Test.YthkgjammcgdffaaGreatRFit
namespace Go.Proofs.YthkgjammcgdffaaGreat
open Go.RowKit

/-- what stands beside the reference's maker -/
structure Er (s c : ByteArray) (m : Nat) : Prop where
  gram : Gram s
  ten : Ten s
  dg : digs c = true
  hc : c.size ≤ 2000
  hm : 1 ≤ m ∧ m ≤ 5
/-- what a making leaves -/
def OutR (b : Nat) (s c : ByteArray) (m B g : Nat) (w : World) (T : List Int) (p : Nat × List Int) (X : Nat) (e : Ending) (w' : World) : Prop :=
  e = .returned (.tuple #[]) ∧ ∃ a' T', Rm w' b s c m B g a' T' ∧ But b w w' ∧ Ends T p a' T' ∧ a' ≤ T'.length ∧ T'.length ≤ X
/-- expressions, to this depth -/
def SaidR (b : Nat) (s c : ByteArray) (m B g : Nat) (n : Nat) : Prop :=
  ∀ (lq : Int) (p x k l a : Nat) (T : List Int) (w : World), Rm w b s c m B g a T → EA w s k (fun j => j < B) p x → lq = l → x ≤ s.size → (sts s x).length ≤ 10 → l ≤ 9 → expFit s (nFit s l) x = true → dep s l x < n → T.length ≤ 8000000 → a ≤ T.length →
    Calls Tryz.prog 107 #[.pointer (some ⟨b, 0, none⟩), .pointer (some ⟨p, 0, none⟩), .int .i64 lq] w fun e w' => OutR b s c m B g w T (genE s c m n l x a) (max T.length (2001 + 1000 * n)) e w'

section
variable {b : Nat} {s c : ByteArray} {m B g : Nat}

theorem nFit_pos' {l i : Nat} (h : nFit s l i = true) : 0 < l := by
  cases l with
  | zero => cases h
  | succ l => omega
/-- a name's expression -/
theorem name_place' (g : Gram s) (ten : Ten s) {f : Nat} (hf : cN (bt s f) = true) : ∃ j : Nat, rl s (bt s f) = (j : Int) ∧ j < s.size ∧ j + 2 ≤ s.size ∧ (sts s (j + 2)).length ≤ 10 ∧ (rl s (bt s f) + 2).toNat = j + 2 := by
  obtain ⟨j, h1, h2, h3, _⟩ := g.name f hf
  exact ⟨j, h1, h2, (g.rule j h2 h3).2.2.1, ten.rule j h2 h3, by omega⟩
theorem name_fit' {l f : Nat} (hf : cN (bt s f) = true) (h : nFit s l (bt s f - 65).toNat = true) : expFit s (nFit s (l - 1)) (rl s (bt s f) + 2).toNat = true := by
  have hv : 65 ≤ bt s f ∧ bt s f ≤ 90 := by simpa [cN] using hf
  cases l with
  | zero => cases h
  | succ l =>
    have e : ((65 + (bt s f - 65).toNat : Nat) : Int) = bt s f := by omega
    have h' : expFit s (nFit s l) (rl s (65 + (bt s f - 65).toNat : Nat) + 2).toNat = true := h
    rw [e] at h'; exact h'
/-- a cell and the array, wherever it begins -/
theorem keepO {wr w2 : World} {ga o nb no : Nat} {u : Value} {cs : List Value} (h : Below wr.heap.size wr w2) (e1 : wr.cell? ⟨ga, o, none⟩ = some u) (hr : wr.rangeAt nb no cs) :
    Below wr.heap.size wr w2 ∧ w2.cell? ⟨ga, o, none⟩ = some u ∧ w2.rangeAt nb no cs :=
  ⟨h, (h.cell (p := ⟨ga, o, none⟩) (World.block_lt_of_cell? wr _ e1)).trans e1, range_below hr h⟩
theorem EA.but {w w1 : World} {s : ByteArray} {b B n p x : Nat} (h : EA w s n (fun j => j < B) p x) (hb : But b w w1) (hB : B ≤ b) (hlt : b ≤ w.heap.size) : EA w1 s n (fun j => j < B) p x :=
  EA.frame (fun j hj => (hb.below hB hlt).block j hj) (fun _ h => h) n n p x (Nat.le_refl _) h
/-- the factor's own block, and one byte behind it -/
theorem fac_start (w : World) (x : Int) (sv : Value) (t u : TypeId) :
    Below w.heap.size w ((w.alloc (.cells #[.int .u8 x, sv] t)).alloc (.cells #[.int .u8 x] u)) ∧ ((w.alloc (.cells #[.int .u8 x, sv] t)).alloc (.cells #[.int .u8 x] u)).cell? ⟨w.heap.size, 0, none⟩ = some (.int .u8 x) ∧ ((w.alloc (.cells #[.int .u8 x, sv] t)).alloc (.cells #[.int .u8 x] u)).cell? ⟨w.heap.size, 1, none⟩ = some sv ∧
      ((w.alloc (.cells #[.int .u8 x, sv] t)).alloc (.cells #[.int .u8 x] u)).heap.size = w.heap.size + 2 := by
  refine ⟨((Below.refl _ _).alloc (Nat.le_refl _) _).alloc (by simp) _, ?_, ?_, by simp⟩
  · rw [World.cell?_alloc_old _ _ _ (by simp), World.cell?_alloc_new]; rfl
  · rw [World.cell?_alloc_old _ _ _ (by simp), World.cell?_alloc_new]; rfl

set_option maxHeartbeats 1000000 in
set_option maxRecDepth 1000000 in
theorem rfac_letter {n : Nat} (lq : Int) (f l a : Nat) (T : List Int) (w : World) (hk : Rm w b s c m B g a T) (h2 : cN (bt s f) = false) (h3 : cO (bt s f) = false) (hT : T.length ≤ 8000100) (ha : a ≤ T.length) :
    Calls Tryz.prog 62 #[.pointer (some ⟨b, 0, none⟩), .agg #[.int .u8 (bt s f), .pointer none], .int .i64 lq] w fun e w' => OutR b s c m B g w T (genF s c m (genE s c m n) l f a) (max T.length (2001 + 1000 * n) + 3) e w' := by
  have hR : genF s c m (genE s c m n) l f a = (a, [bt s f]) := by unfold genF; rw [if_neg (by simp [h2]), if_neg (by simp [h3])]
  rw [hR]
  have hblt := hk.lt
  have hcv := conv_one (w.alloc (.cells #[.int .u8 (bt s f), .pointer none] 98)) (bt s f)
  rw [World.size_alloc] at hcv
  obtain ⟨s1, s2, s3, s4⟩ := fac_start w (bt s f) (.pointer none) 98 5
  have HK := hide (hk.below s1)
  have HS1 := hide s1
  have h2' := hide h2
  clear h2 h3 hR hk s1
  go_enter Tryz.func62, Tryz.ntmps62
  go_wp2_with (first
    | (go_at_call 57; refine (name_any _ _).mono ?_; rw [unhide h2']; rintro e w' ⟨rfl, hw⟩; replace hw := hw.symm; subst hw)
    | fail)
  refine (put_any (unhide HK) (by omega) [bt s f] _ rfl (by simp)).mono ?_
  rintro e w1 ⟨rfl, hk1, hb1⟩
  have e0 := (hb1.cell (g := w.heap.size) (o := 0) (by omega) (by omega)).trans s2
  have e1 := (hb1.cell (g := w.heap.size) (o := 1) (by omega) (by omega)).trans s3
  have HK1 := hide hk1
  have HB1 := hide ((But.of (b := b) (unhide HS1)).trans hb1)
  clear hcv s2 s3 hk1 hb1
  go_wp2
  go_end0
  exact ⟨rfl, a, _, unhide HK1, unhide HB1, Ends.put T [bt s f] a, by simp; omega, by simp; omega⟩

set_option maxHeartbeats 1000000 in
set_option maxRecDepth 1000000 in
theorem rfac_name (v : Er s c m) {n : Nat} (hn : n ≤ 5000) (hE : SaidR b s c m B g n) (lq : Int) (f l a : Nat) (T : List Int) (w : World) (hk : Rm w b s c m B g a T) (hl : lq = l) (hl9 : l ≤ 9) (h2 : cN (bt s f) = true) (hfit : nFit s l (bt s f - 65).toNat = true)
    (hd : ∀ y, dep s (l - 1) y < n) (hT : T.length ≤ 7000000) (ha : a ≤ T.length) :
    Calls Tryz.prog 62 #[.pointer (some ⟨b, 0, none⟩), .agg #[.int .u8 (bt s f), .pointer none], .int .i64 lq] w fun e w' => OutR b s c m B g w T (genF s c m (genE s c m n) l f a) (max T.length (2001 + 1000 * n) + 3) e w' := by
  subst hl
  generalize hR : genF s c m (genE s c m n) l f a = R
  unfold genF genN at hR
  rw [if_pos h2] at hR
  have hpos := nFit_pos' hfit
  obtain ⟨j, j1, j2, j3, j4, j5⟩ := name_place' v.gram v.ten h2
  have H10 := hide j4
  have hex := name_fit' h2 hfit
  rw [j5] at hex hR
  have hv : 65 ≤ bt s f ∧ bt s f ≤ 90 := by simpa [cN] using h2
  obtain ⟨hv1, hv2⟩ := hv
  have hblt := hk.lt
  have hcv := conv_one (w.alloc (.cells #[.int .u8 (bt s f), .pointer none] 98)) (bt s f)
  rw [World.size_alloc] at hcv
  obtain ⟨s1, s2, s3, s4⟩ := fac_start w (bt s f) (.pointer none) 98 5
  have HK := hide (hk.below s1)
  have HS1 := hide s1
  have h2' := hide h2
  have HR := hide hR
  have HX := hide hex
  have HD := hide (hd (j + 2))
  clear hR hk s1 hex hd hfit h2 j5 j4
  go_enter Tryz.func62, Tryz.ntmps62
  go_wp2_with (first
    | (go_at_call 57; refine (name_any _ _).mono ?_; rw [unhide h2']; rintro e w' ⟨rfl, hw⟩; replace hw := hw.symm; subst hw)
    | fail)
  refine (put_any (unhide HK) (by omega) [bt s f] _ rfl (by simp)).mono ?_
  rintro e w1 ⟨rfl, hk1, hb1⟩
  have e0 := (hb1.cell (g := w.heap.size) (o := 0) (by omega) (by omega)).trans s2
  have HK1 := hide hk1
  have HB1 := hide ((But.of (b := b) (unhide HS1)).trans hb1)
  have hz1 := hb1.size
  clear hcv s2 s3 hk1 hb1
  go_wp2_with fail
  refine (put_any (unhide HK1) (by simp; omega) [40] _ rfl (by simp)).mono ?_
  rintro e w2 ⟨rfl, hk2, hb2⟩
  have e00 := (hb2.cell (g := w.heap.size) (o := 0) (by omega) (by omega)).trans e0
  have gp := hk2.gp
  obtain ⟨p, k, j', i1, i2, i3, i4⟩ := hk2.gr.rules f (unhide h2')
  have ejj : j' = j := by omega
  subst ejj
  have HK2 := hide hk2
  have HB2 := hide ((unhide HB1).trans hb2)
  have HEA := hide i4
  have hz3 := hb2.size
  clear e0 hk2 hb2 i1 i4 HB1 HK1
  have hgb : g ≠ b := by have := (unhide HK2).gr.lt; have := (unhide HK2).hB; omega
  have hgl : g < w2.heap.size := by have := (unhide HK2).gr.lt; have := (unhide HK2).hB; have := (unhide HK2).lt; omega
  have hz2 : w.heap.size < w2.heap.size := by omega
  have hBw : B ≤ w2.heap.size := by have := (unhide HK2).hB; have := (unhide HK2).lt; omega
  have hix : bt s f - 65 < 26 := by omega
  have hix0 : 0 ≤ bt s f - 65 := by omega
  have hwr : IntKind.u8.wrap (bt s f - 65) = bt s f - 65 := by simp [IntKind.wrap, IntKind.signed, IntKind.bits]; omega
  have hw2 : IntKind.i64.wrap ((l : Int) - 1) = (l : Int) - 1 := by simp [IntKind.wrap, IntKind.signed, IntKind.bits]; omega
  go_wp2_with fail
  go_region_held (fun w' => w'.cell? ⟨b, 0, none⟩ = some (.pointer (some ⟨g, 0, none⟩)) ∧ w'.cell? ⟨g, (bt s f - 65).toNat, none⟩ = some (.pointer (some ⟨p, 0, none⟩)) ∧ w'.cell? ⟨w.heap.size, 0, none⟩ = some (.int .u8 (bt s f))) (first | exact ⟨gp, i3, e00⟩ | exact ⟨hk3.gp, (hb3.cell (g := g) hgb hgl).trans i3, (hb3.cell (g := w.heap.size) (Nat.ne_of_gt hblt) hz2).trans e00⟩) (first | (go_at_call 107; refine (hE _ p (j' + 2) k (l - 1) a _ _ (unhide HK2).drew ((unhide HEA).below ((Below.refl _ _).drew) hBw) ?_ j3 (unhide H10) ?_ (unhide HX) (unhide HD) ?_ ?_).mono ?_; omega; omega; simp; omega; simp; omega; rintro e w3 ⟨rfl, a3, T3, hk3, hb3, he3, ha3, hT3⟩))
  have HK3 := hide hk3
  have HB3 := hide (((unhide HB2).trans (But.of ((Below.refl _ _).drew))).trans hb3)
  have HE3 := hide he3
  clear hk3 hb3 he3 gp i3 e00 hwr hw2
  simp only [List.length_append, List.length_cons, List.length_nil] at hT3
  go_wp2_with fail
  refine (put_any (unhide HK3) (by omega) [41] _ rfl (by simp)).mono ?_
  rintro e w4 ⟨rfl, hk4, hb4⟩
  have HK4 := hide hk4
  have HB4 := hide ((unhide HB3).trans hb4)
  clear hk4 hb4
  go_wp2
  go_end0
  refine ⟨rfl, a3, T3 ++ [41], unhide HK4, unhide HB4, ?_, by simp; omega, by simp; omega⟩
  have h1 := ((Ends.put T [bt s f] a).seq (q := fun a => (a, [40])) (Ends.put (T ++ [bt s f]) [40] a)).seq (q := genE s c m n (l - 1) (j' + 2)) (unhide HE3)
  refine h1.seq' (q := fun a => (a, [41])) (Ends.put T3 [41] a3) ?_
  rw [← unhide HR]; simp
end
end Go.Proofs.YthkgjammcgdffaaGreat
