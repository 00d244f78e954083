/- PTab PChart PChart2 -/
import Derived.Test.YtnfaiaoipeholaaGreatDoorAa04
import Derived.Test.YtnfaiaoipeholaaGreatDoorAa22
import Derived.Test.YtnfaiaoipeholaaGreatDoorAa02
import Derived.Deep.QuietTactic
import Derived.BigQuiet
namespace Go.Proofs.YtnfaiaoipeholaaGreatDoor
open Go.RowKit

/-- where a number lies -/
def ix (n p a e : Nat) : Nat := (p * (n + 1) + a) * (n + 1) + e
theorem ix_lt {n p a e S : Nat} (hp : p < S) (ha : a ≤ n) (he : e ≤ n) : ix n p a e < S * (n + 1) * (n + 1) := by
  unfold ix
  have h1 : p * (n + 1) + a + 1 ≤ S * (n + 1) := by
    have := Nat.mul_le_mul_right (n + 1) (show p + 1 ≤ S from hp)
    rw [Nat.add_mul] at this; omega
  have h2 := Nat.mul_le_mul_right (n + 1) h1
  rw [Nat.add_mul] at h2; omega
theorem ix_ge {n p a e S : Nat} (hp : S ≤ p) : S * (n + 1) * (n + 1) ≤ ix n p a e := by
  unfold ix
  have h1 : S * (n + 1) ≤ p * (n + 1) + a := by
    have := Nat.mul_le_mul_right (n + 1) hp; omega
  have h2 := Nat.mul_le_mul_right (n + 1) h1
  omega
theorem two_inj {m x y e f : Nat} (he : e < m) (hf : f < m) (h : x * m + e = y * m + f) : x = y ∧ e = f := by
  have h1 : (x * m + e) / m = x := by rw [Nat.mul_comm, Nat.mul_add_div (by omega), Nat.div_eq_of_lt he]; omega
  have h2 : (y * m + f) / m = y := by rw [Nat.mul_comm, Nat.mul_add_div (by omega), Nat.div_eq_of_lt hf]; omega
  have : x = y := by rw [← h1, ← h2, h]
  subst this
  exact ⟨rfl, by omega⟩
theorem ix_inj {n p a e q c d : Nat} (ha : a ≤ n) (he : e ≤ n) (hc : c ≤ n) (hd : d ≤ n) (h : ix n p a e = ix n q c d) : p = q ∧ a = c ∧ e = d := by
  obtain ⟨h1, h2⟩ := two_inj (m := n + 1) (by omega) (by omega) h
  obtain ⟨h3, h4⟩ := two_inj (m := n + 1) (by omega) (by omega) h1
  exact ⟨h3, h4, h2⟩
theorem ix_bd {n p a e : Nat} (hn : n ≤ 20) (hp : p ≤ 310) (ha : a ≤ n) (he : e ≤ n) : p * (n + 1) ≤ 6510 ∧ (p * (n + 1) + a) * (n + 1) ≤ 140000 ∧ ix n p a e ≤ 150000 := by
  have h1 : p * (n + 1) ≤ 310 * 21 := Nat.mul_le_mul hp (by omega)
  have h2 : (p * (n + 1) + a) * (n + 1) ≤ 6530 * 21 := Nat.mul_le_mul (by omega) (by omega)
  unfold ix; omega

/-- a table in memory: its two cells, and its numbers' block -/
structure Tab (w : World) (b o g S n : Nat) (T : Tb) : Prop where
  en : w.cell? ⟨b, o, none⟩ = some (.int .i64 ((n : Int) + 1))
  bts : w.cell? ⟨b, o + 1, none⟩ = some (.slice (some ⟨g, 0, none⟩) (S * (n + 1) * (n + 1)) (S * (n + 1) * (n + 1)))
  at_ : ∀ p a e, p < S → a ≤ n → e ≤ n → w.cell? ⟨g, ix n p a e, none⟩ = some (.int .i64 (T p a e : Nat))
  fz : ∀ p a e, p < S → a ≤ n → e ≤ n → w.frozen? ⟨g, ix n p a e, none⟩ = false
  out : ∀ p a e, S ≤ p → T p a e = 2001

set_option maxHeartbeats 400000 in
theorem index_any {b o n : Nat} {w : World} (h0 : w.cell? ⟨b, o, none⟩ = some (.int .i64 ((n : Int) + 1))) (pq aq eq : Int) (p a e : Nat) (hn : n ≤ 20) (hp : p ≤ 310) (ha : a ≤ n) (he : e ≤ n) (e1 : pq = p) (e2 : aq = a) (e3 : eq = e) :
    Calls Tryz.prog 145 #[.pointer (some ⟨b, o, none⟩), .int .i64 pq, .int .i64 aq, .int .i64 eq] w fun r w' => r = .returned (.int .i64 (ix n p a e : Nat)) ∧ ∃ k, w' = w.drewN k := by
  subst e1 e2 e3
  obtain ⟨b1, b2, b3⟩ := ix_bd (e := e) hn hp ha he
  have hr : ((ix n p a e : Nat) : Int) = ((p : Int) * ((n : Int) + 1) + a) * ((n : Int) + 1) + e := by unfold ix; simp
  rw [hr]
  have c1 : (p : Int) * ((n : Int) + 1) ≤ 6510 := by have : ((p * (n + 1) : Nat) : Int) ≤ 6510 := by omega
                                                     simpa using this
  have c2 : ((p : Int) * ((n : Int) + 1) + a) * ((n : Int) + 1) ≤ 140000 := by have : (((p * (n + 1) + a) * (n + 1) : Nat) : Int) ≤ 140000 := by omega
                                                                               simpa using this
  have c3 : 0 ≤ (p : Int) * ((n : Int) + 1) := by have : (0 : Int) ≤ ((p * (n + 1) : Nat) : Int) := by omega
                                                  simpa using this
  have c4 : 0 ≤ ((p : Int) * ((n : Int) + 1) + a) * ((n : Int) + 1) := by have : (0 : Int) ≤ (((p * (n + 1) + a) * (n + 1) : Nat) : Int) := by omega
                                                                          simpa using this
  clear hr b1 b2 b3
  go_enter Tryz.func145, Tryz.ntmps145
  go_wp2
  go_quiet (fail)
  go_wp2
  go_ret
  exact ⟨ret_int (by omega), _, rfl⟩

set_option maxHeartbeats 400000 in
theorem least_any {b o g S n : Nat} {T : Tb} {w : World} (h : Tab w b o g S n T) (pq aq eq : Int) (p a e : Nat) (hn : n ≤ 20) (hS : S ≤ 300) (hp : p ≤ 310) (ha : a ≤ n) (he : e ≤ n) (e1 : pq = p) (e2 : aq = a) (e3 : eq = e) :
    Calls Tryz.prog 108 #[.pointer (some ⟨b, o, none⟩), .int .i64 pq, .int .i64 aq, .int .i64 eq] w fun r w' => r = .returned (.int .i64 (T p a e : Nat)) ∧ ∃ k, w' = w.drewN k := by
  have HI := hide (index_any h.en pq aq eq p a e hn hp ha he e1 e2 e3)
  subst e1 e2 e3
  have hN : S * (n + 1) * (n + 1) ≤ 150000 := by
    have h1 : S * (n + 1) ≤ 300 * 21 := Nat.mul_le_mul hS (by omega)
    have h2 : S * (n + 1) * (n + 1) ≤ 6300 * 21 := Nat.mul_le_mul h1 (by omega)
    omega
  have hb := (ix_bd (e := e) hn hp ha he).2.2
  have c0 := h.bts
  by_cases hlt : p < S
  · have c1 := h.at_ p a e hlt ha he
    have hi := ix_lt (e := e) hlt ha he
    generalize ix n p a e = i at *
    generalize S * (n + 1) * (n + 1) = N at *
    generalize T p a e = v at *
    clear h
    go_enter Tryz.func108, Tryz.ntmps108
    go_wp2_with (go_at_call 145; refine (unhide HI).mono ?_; rintro e w' ⟨rfl, k1, rfl⟩)
    go_ret
    exact ⟨rfl, k1, rfl⟩
  · have hi := ix_ge (n := n) (a := a) (e := e) (show S ≤ p by omega)
    rw [h.out p a e (by omega)]
    generalize ix n p a e = i at *
    generalize S * (n + 1) * (n + 1) = N at *
    clear h
    go_enter Tryz.func108, Tryz.ntmps108
    go_wp2_with (go_at_call 145; refine (unhide HI).mono ?_; rintro e w' ⟨rfl, k1, rfl⟩)
    go_ret
    exact ⟨rfl, k1, rfl⟩

/-- a number that is put down where it is less -/
def Lowd (w : World) (g i old v : Nat) : World := if v < old then w.setCell ⟨g, i, none⟩ (.int .i64 (v : Int)) else w
set_option maxHeartbeats 400000 in
theorem lower_any {b o g S n : Nat} {T : Tb} {w : World} (h : Tab w b o g S n T) (pq aq eq vq : Int) (p a e v : Nat) (hn : n ≤ 20) (hS : S ≤ 300) (hp : p < S) (ha : a ≤ n) (he : e ≤ n) (e1 : pq = p) (e2 : aq = a) (e3 : eq = e) (e4 : vq = v) :
    Calls Tryz.prog 172 #[.pointer (some ⟨b, o, none⟩), .int .i64 pq, .int .i64 aq, .int .i64 eq, .int .i64 vq] w fun r w' => r = .returned (.bool (decide (v < T p a e))) ∧ ∃ k, w' = (Lowd w g (ix n p a e) (T p a e) v).drewN k := by
  have HI := hide (index_any h.en pq aq eq p a e hn (by omega) ha he e1 e2 e3)
  subst e1 e2 e3 e4
  have hN : S * (n + 1) * (n + 1) ≤ 150000 := by
    have h1 : S * (n + 1) ≤ 300 * 21 := Nat.mul_le_mul hS (by omega)
    have h2 : S * (n + 1) * (n + 1) ≤ 6300 * 21 := Nat.mul_le_mul h1 (by omega)
    omega
  have c0 := h.bts
  have c1 := h.at_ p a e hp ha he
  have c2 := h.fz p a e hp ha he
  have hi := ix_lt (e := e) hp ha he
  generalize ix n p a e = i at *
  generalize S * (n + 1) * (n + 1) = N at *
  generalize T p a e = t at *
  clear h
  by_cases hlt : v < t
  · have HW : Hid (Lowd w g i t v = w.setCell ⟨g, i, none⟩ (.int .i64 (v : Int))) := hide (by unfold Lowd; rw [if_pos hlt])
    rw [show decide (v < t) = true by simpa using hlt]
    generalize Lowd w g i t v = w9 at *
    go_enter Tryz.func172, Tryz.ntmps172
    go_wp2_with (go_at_call 145; refine (unhide HI).mono ?_; rintro e w' ⟨rfl, k1, rfl⟩)
    go_ret
    exact ⟨rfl, k1, by rw [unhide HW] <;> rfl⟩
  · have HW : Hid (Lowd w g i t v = w) := hide (by unfold Lowd; rw [if_neg hlt])
    rw [show decide (v < t) = false by simpa using hlt]
    generalize Lowd w g i t v = w9 at *
    go_enter Tryz.func172, Tryz.ntmps172
    go_wp2_with (go_at_call 145; refine (unhide HI).mono ?_; rintro e w' ⟨rfl, k1, rfl⟩)
    go_ret
    exact ⟨rfl, k1, by rw [unhide HW] <;> rfl⟩
theorem Tab.set {w : World} {b o g S n : Nat} {T : Tb} (h : Tab w b o g S n T) {p a e v : Nat} (hp : p < S) (ha : a ≤ n) (he : e ≤ n) (hb : b ≠ g) : Tab (w.setCell ⟨g, ix n p a e, none⟩ (.int .i64 (v : Int))) b o g S n (tbU T p a e v) := by
  refine ⟨?_, ?_, fun q c d hq hc hd => ?_, fun q c d hq hc hd => by rw [World.frozen?_setCell]; exact h.fz q c d hq hc hd, fun q c d hq => by rw [tbU_place (by omega)]; exact h.out q c d hq⟩
  · rw [World.cell?_setCell_other w _ _ _ (fun e => by injection e with e _; exact hb e.symm)]; exact h.en
  · rw [World.cell?_setCell_other w _ _ _ (fun e => by injection e with e _; exact hb e.symm)]; exact h.bts
  · by_cases e1 : q = p ∧ c = a ∧ d = e
    · obtain ⟨rfl, rfl, rfl⟩ := e1
      rw [World.cell?_setCell_same w _ _ (h.at_ q c d hq hc hd), tbU_same]
    · rw [World.cell?_setCell_other w _ _ _ (fun e2 => by
        injection e2 with _ e3
        obtain ⟨i1, i2, i3⟩ := ix_inj ha he hc hd e3
        exact e1 ⟨i1.symm, i2.symm, i3.symm⟩), h.at_ q c d hq hc hd]
      unfold tbU; rw [if_neg e1]
theorem Tab.other {w : World} {b o g S n : Nat} {T : Tb} (h : Tab w b o g S n T) {g' i : Nat} (v : Value) (hb : b ≠ g') (hg : g ≠ g') : Tab (w.setCell ⟨g', i, none⟩ v) b o g S n T := by
  refine ⟨?_, ?_, fun q c d hq hc hd => ?_, fun q c d hq hc hd => by rw [World.frozen?_setCell]; exact h.fz q c d hq hc hd, h.out⟩
  · rw [World.cell?_setCell_other w _ _ _ (fun e => by injection e with e _; exact hb e.symm)]; exact h.en
  · rw [World.cell?_setCell_other w _ _ _ (fun e => by injection e with e _; exact hb e.symm)]; exact h.bts
  · rw [World.cell?_setCell_other w _ _ _ (fun e => by injection e with e _; exact hg e.symm)]; exact h.at_ q c d hq hc hd
theorem Tab.low {w : World} {b o g S n : Nat} {T : Tb} (h : Tab w b o g S n T) {p a e v : Nat} (hp : p < S) (ha : a ≤ n) (he : e ≤ n) (hb : b ≠ g) (hv : v ≤ T p a e) : Tab (Lowd w g (ix n p a e) (T p a e) v) b o g S n (tbU T p a e v) := by
  unfold Lowd; split
  · exact h.set hp ha he hb
  · rw [tbU_id (by omega)]; exact h
theorem Tab.lowO {w : World} {b o g S n : Nat} {T : Tb} (h : Tab w b o g S n T) {g' i old v : Nat} (hb : b ≠ g') (hg : g ≠ g') : Tab (Lowd w g' i old v) b o g S n T := by
  unfold Lowd; split
  · exact h.other _ hb hg
  · exact h
end Go.Proofs.YtnfaiaoipeholaaGreatDoor

namespace Go.Proofs.YtnfaiaoipeholaaGreatDoor
open Go.RowKit

/-- a chart in memory -/
structure Ch (w : World) (b : Nat) (s u : ByteArray) (r x y q : Nat) (R X W : Tb) : Prop where
  gram : w.cell? ⟨b, 0, none⟩ = some (.string s)
  word : w.cell? ⟨b, 1, none⟩ = some (.string u)
  sl : w.cell? ⟨b, 2, none⟩ = some (.slice (some ⟨q, 0, none⟩) s.size s.size)
  s0 : ∀ p, p < s.size → w.cell? ⟨q, p * 4, none⟩ = some (.int .i64 (wi s p : Nat))
  s1 : ∀ p, p < s.size → w.cell? ⟨q, p * 4 + 1, none⟩ = some (.int .i64 (bh s p : Nat))
  s2 : ∀ p, p < s.size → w.cell? ⟨q, p * 4 + 2, none⟩ = some (.int .i64 (pl (nx s p)))
  s3 : ∀ p, p < s.size → w.cell? ⟨q, p * 4 + 3, none⟩ = some (.bool (begs s p))
  tr : Tab w b 3 r s.size u.size R
  tx : Tab w b 5 x s.size u.size X
  ty : Tab w b 7 y s.size u.size W
  hs : s.size ≤ 300
  hu : u.size ≤ 20
  ne : (r ≠ x ∧ r ≠ y ∧ x ≠ y) ∧ (b ≠ r ∧ b ≠ x ∧ b ≠ y) ∧ (q ≠ r ∧ q ≠ x ∧ q ≠ y)
section
variable {w : World} {b : Nat} {s u : ByteArray} {r x y q : Nat} {R X W : Tb}
theorem lt_cell {w : World} {b o : Nat} {v : Value} (h : w.cell? ⟨b, o, none⟩ = some v) : b < w.heap.size := World.block_lt_of_cell? w _ h
theorem Tab.below {w w' : World} {b o g S n : Nat} {T : Tb} (h : Tab w b o g S n T) (hb : Below w.heap.size w w') : Tab w' b o g S n T :=
  ⟨(hb.cell (p := ⟨b, o, none⟩) (lt_cell h.en)).trans h.en, (hb.cell (p := ⟨b, o + 1, none⟩) (lt_cell h.en)).trans h.bts, fun p a e h1 h2 h3 => (hb.cell (p := ⟨g, ix n p a e, none⟩) (lt_cell (h.at_ p a e h1 h2 h3))).trans (h.at_ p a e h1 h2 h3), fun p a e h1 h2 h3 => (hb.frozen (p := ⟨g, ix n p a e, none⟩) (lt_cell (h.at_ p a e h1 h2 h3))).trans (h.fz p a e h1 h2 h3), h.out⟩
theorem Ch.below {w' : World} (h : Ch w b s u r x y q R X W) (hb : Below w.heap.size w w') : Ch w' b s u r x y q R X W :=
  have hlt := lt_cell h.gram
  ⟨(hb.cell (p := ⟨b, 0, none⟩) hlt).trans h.gram, (hb.cell (p := ⟨b, 1, none⟩) hlt).trans h.word, (hb.cell (p := ⟨b, 2, none⟩) hlt).trans h.sl, fun p hp => (hb.cell (p := ⟨q, p * 4, none⟩) (lt_cell (h.s0 p hp))).trans (h.s0 p hp), fun p hp => (hb.cell (p := ⟨q, p * 4 + 1, none⟩) (lt_cell (h.s0 p hp))).trans (h.s1 p hp), fun p hp => (hb.cell (p := ⟨q, p * 4 + 2, none⟩) (lt_cell (h.s0 p hp))).trans (h.s2 p hp), fun p hp => (hb.cell (p := ⟨q, p * 4 + 3, none⟩) (lt_cell (h.s0 p hp))).trans (h.s3 p hp), h.tr.below hb, h.tx.below hb, h.ty.below hb, h.hs, h.hu, h.ne⟩
theorem below_dr {B : Nat} {a w : World} (h : Below B a w) (n : Nat) : Below B a (w.drewN n) := ⟨h.os, h.tape, h.output, h.size, h.block⟩
set_option maxHeartbeats 400000 in
theorem mayBeEmpty_any (c : Int) (w : World) : Calls Tryz.prog 109 #[.int .u8 c] w fun e w' => e = .returned (.bool (decide (c = 91 ∨ c = 123))) ∧ w' = w := by
  go_enter Tryz.func109, Tryz.ntmps109
  go_wp2
  all_goals (go_ret; exact ⟨ret_bool (by rw [Bool.eq_iff_iff]; simp_all), rfl⟩)
set_option maxHeartbeats 400000 in
theorem isList_any (c : Int) (w : World) : Calls Tryz.prog 110 #[.int .u8 c] w fun e w' => e = .returned (.bool (decide (c = 123 ∨ c = 60))) ∧ w' = w := by
  go_enter Tryz.func110, Tryz.ntmps110
  go_wp2
  all_goals (go_ret; exact ⟨ret_bool (by rw [Bool.eq_iff_iff]; simp_all), rfl⟩)
set_option maxHeartbeats 400000 in
theorem noFactors_any (a e : Int) (w : World) : Calls Tryz.prog 184 #[.int .i64 a, .int .i64 e] w fun r w' => r = .returned (.int .i64 (if a = e then 0 else 2001)) ∧ w' = w := by
  by_cases h : a = e
  · subst h
    rw [if_pos rfl]
    go_enter Tryz.func184, Tryz.ntmps184
    go_wp2
    go_ret; exact ⟨rfl, rfl⟩
  · rw [if_neg h]
    have h' : (a == e) = false := by simp [h]
    go_enter Tryz.func184, Tryz.ntmps184
    go_wp2
    go_ret; exact ⟨rfl, rfl⟩
theorem Tryz.infoSpot : (Tryz.prog.info? 137).map (·.size) = some 4 := by kernel_rfl
/-- what belongs to a place -/
def spV (s : ByteArray) (p : Nat) : Value := .agg #[.int .i64 (wi s p : Nat), .int .i64 (bh s p : Nat), .int .i64 (pl (nx s p)), .bool (begs s p)]
set_option maxHeartbeats 400000 in
theorem spot_any (h : Ch w b s u r x y q R X W) (pq : Int) (p : Nat) (hp : p < s.size) (e1 : pq = p) :
    Calls Tryz.prog 107 #[.pointer (some ⟨b, 0, none⟩), .int .i64 pq] w fun e w' => e = .returned (spV s p) ∧ Below w.heap.size w w' := by
  subst e1
  have hs := h.hs
  have c0 := h.sl
  have d0 := h.s0 p hp
  have d1 := h.s1 p hp
  have d2 := h.s2 p hp
  have d3 := h.s3 p hp
  have hb := lt_cell c0
  have hq := lt_cell d0
  have HBel : Hid (∀ o, Below w.heap.size w (w.alloc o)) := hide (fun o => (Below.refl _ _).alloc (Nat.le_refl _) o)
  unfold spV
  generalize ((wi s p : Nat) : Int) = v0 at *
  generalize ((bh s p : Nat) : Int) = v1 at *
  generalize pl (nx s p) = v2 at *
  generalize begs s p = v3 at *
  clear h
  go_enter Tryz.func107, Tryz.ntmps107
  go_wp2
  exact bodyPost_ret (v := .agg #[.int .i64 v0, .int .i64 v1, .int .i64 v2, .bool v3]) (results_cell_mid Tryz.results107 _ _ w.heap.size [.int .i64 v0, .int .i64 v1, .int .i64 v2, .bool v3] _ rfl (range_alloc w [.int .i64 v0, .int .i64 v1, .int .i64 v2, .bool v3] _) Tryz.underlying137 rfl Tryz.infoSpot) rfl ⟨rfl, unhide HBel _⟩
theorem Tryz.fld0 (v0 v1 v2 : Int) (v3 : Bool) (w : World) : (Instr.field 137 (.agg #[.int .i64 v0, .int .i64 v1, .int .i64 v2, .bool v3]) 0).run Tryz.prog w = .ok (.int .i64 v0) w := by kernel_rfl
theorem Tryz.fld1 (v0 v1 v2 : Int) (v3 : Bool) (w : World) : (Instr.field 137 (.agg #[.int .i64 v0, .int .i64 v1, .int .i64 v2, .bool v3]) 1).run Tryz.prog w = .ok (.int .i64 v1) w := by kernel_rfl
theorem Tryz.fld2 (v0 v1 v2 : Int) (v3 : Bool) (w : World) : (Instr.field 137 (.agg #[.int .i64 v0, .int .i64 v1, .int .i64 v2, .bool v3]) 2).run Tryz.prog w = .ok (.int .i64 v2) w := by kernel_rfl
set_option maxHeartbeats 400000 in
theorem clet_any (h : Ch w b s u r x y q R X W) (c aq eq : Int) (a e : Nat) (ha : a ≤ 20) (he : e ≤ 20) (e2 : aq = a) (e3 : eq = e) :
    Calls Tryz.prog 106 #[.pointer (some ⟨b, 0, none⟩), .int .u8 c, .int .i64 aq, .int .i64 eq] w fun r w' => r = .returned (.int .i64 ((if e = a + 1 ∧ bt u a = c then 1 else 2001 : Nat) : Nat)) ∧ w' = w := by
  subst e2 e3
  have hu : u.size ≤ maxLen := by have := h.hu; unfold maxLen; omega
  have c0 := h.word
  clear h
  by_cases h1 : e = a + 1
  · by_cases h2 : bt u a = c
    · rw [if_pos ⟨h1, h2⟩]
      have h2' : Hid (bt u a = c) := hide h2
      subst h1
      clear h2
      go_enter Tryz.func106, Tryz.ntmps106
      go_wp2_with (go_at_call 87; refine (at_any _ _ _ hu).mono ?_; rintro e w' ⟨rfl, rfl⟩; rw [unhide h2'])
      go_ret; exact ⟨rfl, rfl⟩
    · rw [if_neg (fun e => h2 e.2)]
      have h2' : (bt u a == c) = false := by simp [h2]
      subst h1
      clear h2
      go_enter Tryz.func106, Tryz.ntmps106
      go_wp2_with (go_at_call 87; refine (at_any _ _ _ hu).mono ?_; rintro e w' ⟨rfl, rfl⟩)
      go_ret; exact ⟨rfl, rfl⟩
  · rw [if_neg (fun e => h1 e.1)]
    have h1' : ((e : Int) == (a : Int) + 1) = false := by simp; omega
    clear h1
    go_enter Tryz.func106, Tryz.ntmps106
    go_wp2_with (go_at_call 87; refine (at_any _ _ _ hu).mono ?_; rintro e w' ⟨rfl, rfl⟩)
    go_ret; exact ⟨rfl, rfl⟩
end
end Go.Proofs.YtnfaiaoipeholaaGreatDoor

namespace Go.Proofs.YtnfaiaoipeholaaGreatDoor
open Go.RowKit
section
variable {w : World} {b : Nat} {s u : ByteArray} {r x y q : Nat} {R X W : Tb}

set_option maxHeartbeats 1000000 in
set_option maxRecDepth 1000000 in
theorem cfac_any (g : Gram s) (ins : Ins s) (nr : Nrm s u R X W) (h : Ch w b s u r x y q R X W) (pq aq eq : Int) (f a e : Nat) (hf : isF s f = true) (ha : a ≤ u.size) (he : e ≤ u.size) (e1 : pq = f) (e2 : aq = a) (e3 : eq = e) :
    Calls Tryz.prog 60 #[.pointer (some ⟨b, 0, none⟩), .int .i64 pq, .int .i64 aq, .int .i64 eq] w fun r w' => r = .returned (.int .i64 (fcC s u X W f a e : Nat)) ∧ Below w.heap.size w w' := by
  have hu20 := h.hu
  have hs300 := h.hs
  have hs' : s.size ≤ maxLen := by unfold maxLen; omega
  have hlt := isF_lt hf
  have HS := hide (fun w1 (h1 : Ch w1 b s u r x y q R X W) => spot_any h1 pq f hlt e1)
  have HL := clet_any h (bt s f) aq eq a e (by omega) (by omega) e2 e3
  have c0 := h.gram
  have HK := hide h
  have cX := nr.cX (wi s f) a e
  have cW := nr.cW (wi s f) a e
  generalize hR : fcC s u X W f a e = V
  unfold fcC at hR
  subst e1 e2 e3
  clear h nr
  cases h1 : cL (bt s f)
  · clear HL
    obtain ⟨hw1, _⟩ := wi_begs g ins hf h1
    rw [if_neg (by simp [h1])] at hR
    have h1' := hide h1
    have HX := hide (fun (w1 : World) (wq : Int) (h1 : Ch w1 b s u r x y q R X W) (ew : wq = (wi s f : Nat)) => least_any h1.tx wq a e (wi s f) a e hu20 hs300 (by omega) ha he ew rfl rfl)
    have HY := hide (fun (w1 : World) (wq : Int) (h1 : Ch w1 b s u r x y q R X W) (ew : wq = (wi s f : Nat)) => least_any h1.ty wq a e (wi s f) a e hu20 hs300 (by omega) ha he ew rfl rfl)
    generalize X (wi s f) a e = vX at *
    generalize W (wi s f) a e = vW at *
    have hfd := Tryz.fld0 ((wi s f : Nat) : Int) ((bh s f : Nat) : Int) (pl (nx s f)) (begs s f)
    generalize hwif : wi s f = wif at *
    cases h2 : cN (bt s f)
    · rw [if_neg (by simp [h2])] at hR
      have h2' := hide h2
      clear h1 h2 hf
      by_cases h3 : bt s f = 91 ∨ bt s f = 123
      · have h3' : Hid (decide (bt s f = 91 ∨ bt s f = 123) = true) := hide (by simpa using h3)
        by_cases h4 : a = e
        · rw [if_pos ⟨h3, h4⟩] at hR
          subst hR h4
          clear h3 HX HY
          go_enter Tryz.func60, Tryz.ntmps60
          go_wp2_with (first
            | (go_at_call 87; refine (at_any _ _ _ hs').mono ?_; rintro e w' ⟨rfl, hw⟩; replace hw := hw.symm; subst hw)
            | (go_at_call 102; refine (isLetter_any _ _).mono ?_; rintro e w' ⟨rfl, hw⟩; replace hw := hw.symm; subst hw; rw [unhide h1'])
            | (go_at_call 107; refine (unhide HS _ (unhide HK)).mono ?_; rintro e w1 ⟨rfl, hb1⟩; have hk1 := hide ((unhide HK).below hb1); replace hb1 := hide hb1; unfold spV)
            | (go_at_call 86; refine (isName_any _ _).mono ?_; rintro e w' ⟨rfl, hw⟩; replace hw := hw.symm; subst hw; rw [unhide h2'])
            | (go_at_call 109; refine (mayBeEmpty_any _ _).mono ?_; rintro e w' ⟨rfl, hw⟩; replace hw := hw.symm; subst hw; rw [unhide h3']))
          go_ret
          exact ⟨rfl, unhide hb1⟩
        · rw [if_neg (fun e => h4 e.2)] at hR
          have h4' : ((a : Int) == (e : Int)) = false := by simp; omega
          clear h3
          by_cases h5 : bt s f = 123 ∨ bt s f = 60
          · have h5' : Hid (decide (bt s f = 123 ∨ bt s f = 60) = true) := hide (by simpa using h5)
            rw [if_pos h5] at hR
            clear h5 HX
            go_enter Tryz.func60, Tryz.ntmps60
            go_wp2_with (first
              | (go_at_call 87; refine (at_any _ _ _ hs').mono ?_; rintro e w' ⟨rfl, hw⟩; replace hw := hw.symm; subst hw)
              | (go_at_call 102; refine (isLetter_any _ _).mono ?_; rintro e w' ⟨rfl, hw⟩; replace hw := hw.symm; subst hw; rw [unhide h1'])
              | (go_at_call 107; refine (unhide HS _ (unhide HK)).mono ?_; rintro e w1 ⟨rfl, hb1⟩; have hk1 := hide ((unhide HK).below hb1); replace hb1 := hide hb1; unfold spV)
              | (go_at_call 86; refine (isName_any _ _).mono ?_; rintro e w' ⟨rfl, hw⟩; replace hw := hw.symm; subst hw; rw [unhide h2'])
              | (go_at_call 109; refine (mayBeEmpty_any _ _).mono ?_; rintro e w' ⟨rfl, hw⟩; replace hw := hw.symm; subst hw; rw [unhide h3'])
              | (go_at_call 110; refine (isList_any _ _).mono ?_; rintro e w' ⟨rfl, hw⟩; replace hw := hw.symm; subst hw; rw [unhide h5'])
              | (go_at_call 108; refine (unhide HY _ _ (unhide hk1) (by first | rfl | rw [hwif])).mono ?_; rintro e w' ⟨rfl, k2, rfl⟩))
            go_ret
            exact ⟨ret_int (by omega), below_dr (unhide hb1) _⟩
          · have h5' : Hid (decide (bt s f = 123 ∨ bt s f = 60) = false) := hide (by simpa using h5)
            rw [if_neg h5] at hR
            clear h5 HY
            go_enter Tryz.func60, Tryz.ntmps60
            go_wp2_with (first
              | (go_at_call 87; refine (at_any _ _ _ hs').mono ?_; rintro e w' ⟨rfl, hw⟩; replace hw := hw.symm; subst hw)
              | (go_at_call 102; refine (isLetter_any _ _).mono ?_; rintro e w' ⟨rfl, hw⟩; replace hw := hw.symm; subst hw; rw [unhide h1'])
              | (go_at_call 107; refine (unhide HS _ (unhide HK)).mono ?_; rintro e w1 ⟨rfl, hb1⟩; have hk1 := hide ((unhide HK).below hb1); replace hb1 := hide hb1; unfold spV)
              | (go_at_call 86; refine (isName_any _ _).mono ?_; rintro e w' ⟨rfl, hw⟩; replace hw := hw.symm; subst hw; rw [unhide h2'])
              | (go_at_call 109; refine (mayBeEmpty_any _ _).mono ?_; rintro e w' ⟨rfl, hw⟩; replace hw := hw.symm; subst hw; rw [unhide h3'])
              | (go_at_call 110; refine (isList_any _ _).mono ?_; rintro e w' ⟨rfl, hw⟩; replace hw := hw.symm; subst hw; rw [unhide h5'])
              | (go_at_call 108; refine (unhide HX _ _ (unhide hk1) (by first | rfl | rw [hwif])).mono ?_; rintro e w' ⟨rfl, k2, rfl⟩))
            go_ret
            exact ⟨ret_int (by omega), below_dr (unhide hb1) _⟩
      · have h3' : Hid (decide (bt s f = 91 ∨ bt s f = 123) = false) := hide (by simpa using h3)
        rw [if_neg (fun e => h3 e.1)] at hR
        clear h3
        by_cases h5 : bt s f = 123 ∨ bt s f = 60
        · have h5' : Hid (decide (bt s f = 123 ∨ bt s f = 60) = true) := hide (by simpa using h5)
          rw [if_pos h5] at hR
          clear h5 HX
          go_enter Tryz.func60, Tryz.ntmps60
          go_wp2_with (first
            | (go_at_call 87; refine (at_any _ _ _ hs').mono ?_; rintro e w' ⟨rfl, hw⟩; replace hw := hw.symm; subst hw)
            | (go_at_call 102; refine (isLetter_any _ _).mono ?_; rintro e w' ⟨rfl, hw⟩; replace hw := hw.symm; subst hw; rw [unhide h1'])
            | (go_at_call 107; refine (unhide HS _ (unhide HK)).mono ?_; rintro e w1 ⟨rfl, hb1⟩; have hk1 := hide ((unhide HK).below hb1); replace hb1 := hide hb1; unfold spV)
            | (go_at_call 86; refine (isName_any _ _).mono ?_; rintro e w' ⟨rfl, hw⟩; replace hw := hw.symm; subst hw; rw [unhide h2'])
            | (go_at_call 109; refine (mayBeEmpty_any _ _).mono ?_; rintro e w' ⟨rfl, hw⟩; replace hw := hw.symm; subst hw; rw [unhide h3'])
            | (go_at_call 110; refine (isList_any _ _).mono ?_; rintro e w' ⟨rfl, hw⟩; replace hw := hw.symm; subst hw; rw [unhide h5'])
            | (go_at_call 108; refine (unhide HY _ _ (unhide hk1) (by first | rfl | rw [hwif])).mono ?_; rintro e w' ⟨rfl, k2, rfl⟩))
          go_ret
          exact ⟨ret_int (by omega), below_dr (unhide hb1) _⟩
        · have h5' : Hid (decide (bt s f = 123 ∨ bt s f = 60) = false) := hide (by simpa using h5)
          rw [if_neg h5] at hR
          clear h5 HY
          go_enter Tryz.func60, Tryz.ntmps60
          go_wp2_with (first
            | (go_at_call 87; refine (at_any _ _ _ hs').mono ?_; rintro e w' ⟨rfl, hw⟩; replace hw := hw.symm; subst hw)
            | (go_at_call 102; refine (isLetter_any _ _).mono ?_; rintro e w' ⟨rfl, hw⟩; replace hw := hw.symm; subst hw; rw [unhide h1'])
            | (go_at_call 107; refine (unhide HS _ (unhide HK)).mono ?_; rintro e w1 ⟨rfl, hb1⟩; have hk1 := hide ((unhide HK).below hb1); replace hb1 := hide hb1; unfold spV)
            | (go_at_call 86; refine (isName_any _ _).mono ?_; rintro e w' ⟨rfl, hw⟩; replace hw := hw.symm; subst hw; rw [unhide h2'])
            | (go_at_call 109; refine (mayBeEmpty_any _ _).mono ?_; rintro e w' ⟨rfl, hw⟩; replace hw := hw.symm; subst hw; rw [unhide h3'])
            | (go_at_call 110; refine (isList_any _ _).mono ?_; rintro e w' ⟨rfl, hw⟩; replace hw := hw.symm; subst hw; rw [unhide h5'])
            | (go_at_call 108; refine (unhide HX _ _ (unhide hk1) (by first | rfl | rw [hwif])).mono ?_; rintro e w' ⟨rfl, k2, rfl⟩))
          go_ret
          exact ⟨ret_int (by omega), below_dr (unhide hb1) _⟩
    · rw [if_pos h2] at hR
      have h2' := hide h2
      clear h1 h2 hf HY
      go_enter Tryz.func60, Tryz.ntmps60
      go_wp2_with (first
        | (go_at_call 87; refine (at_any _ _ _ hs').mono ?_; rintro e w' ⟨rfl, hw⟩; replace hw := hw.symm; subst hw)
        | (go_at_call 102; refine (isLetter_any _ _).mono ?_; rintro e w' ⟨rfl, hw⟩; replace hw := hw.symm; subst hw; rw [unhide h1'])
        | (go_at_call 107; refine (unhide HS _ (unhide HK)).mono ?_; rintro e w1 ⟨rfl, hb1⟩; have hk1 := hide ((unhide HK).below hb1); replace hb1 := hide hb1; unfold spV)
        | (go_at_call 86; refine (isName_any _ _).mono ?_; rintro e w' ⟨rfl, hw⟩; replace hw := hw.symm; subst hw; rw [unhide h2'])
        | (go_at_call 108; refine (unhide HX _ _ (unhide hk1) (by first | rfl | rw [hwif])).mono ?_; rintro e w' ⟨rfl, k2, rfl⟩))
      go_ret
      exact ⟨ret_int (by omega), below_dr (unhide hb1) _⟩
  · rw [if_pos h1] at hR
    rw [hR] at HL
    have HL' := hide HL
    have h1' := hide h1
    clear h1 hf HS HL hR
    go_enter Tryz.func60, Tryz.ntmps60
    go_wp2_with (first
      | (go_at_call 87; refine (at_any _ _ _ hs').mono ?_; rintro e w' ⟨rfl, hw⟩; replace hw := hw.symm; subst hw)
      | (go_at_call 102; refine (isLetter_any _ _).mono ?_; rintro e w' ⟨rfl, hw⟩; replace hw := hw.symm; subst hw; rw [unhide h1'])
      | (go_at_call 106; refine (unhide HL').mono ?_; rintro e w' ⟨rfl, hw⟩; replace hw := hw.symm; subst hw))
    go_ret
    exact ⟨rfl, Below.refl _ _⟩
end
end Go.Proofs.YtnfaiaoipeholaaGreatDoor
