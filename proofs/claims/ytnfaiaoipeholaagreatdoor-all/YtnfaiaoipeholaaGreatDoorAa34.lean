/- StF StG PCond PCond2 PEnds -/
import Derived.Test.YtnfaiaoipeholaaGreatDoorAa33
import Derived.Test.YtnfaiaoipeholaaGreatDoorAa01
import Derived.Test.YtnfaiaoipeholaaGreatDoorAa02
import Derived.Deep.AppendLies
import Derived.Deep.OwnRows
import Derived.WalkSmall
namespace Go.Proofs.YtnfaiaoipeholaaGreatDoor
/-- where a part ends -/
def peF (c : ByteArray) : Nat → Nat → Nat
  | 0, i => i
  | n + 1, i => if bt c i = 44 then i else peF c n (i + 1)
def pe (c : ByteArray) (b : Nat) : Nat := peF c (c.size - b) b
theorem peF_bd (c : ByteArray) : ∀ n i, i ≤ peF c n i ∧ peF c n i ≤ i + n
  | 0, i => by simp [peF]
  | n + 1, i => by
    have := peF_bd c n (i + 1)
    unfold peF
    split <;> omega
theorem pe_bd {c : ByteArray} {b : Nat} (h : b ≤ c.size) : b ≤ pe c b ∧ pe c b ≤ c.size := by
  have := peF_bd c (c.size - b) b
  unfold pe; omega
theorem cutF_pe (c : ByteArray) : ∀ n i fr, i + n = c.size → cutF c 44 n i fr = (fr, peF c n i) :: (if peF c n i < c.size then cutF c 44 (c.size - (peF c n i + 1)) (peF c n i + 1) (peF c n i + 1) else [])
  | 0, i, fr, h => by
    rw [show peF c 0 i = i from rfl, if_neg (by omega), show cutF c 44 0 i fr = [(fr, c.size)] from rfl, show c.size = i by omega]
  | n + 1, i, fr, h => by
    rw [show cutF c 44 (n + 1) i fr = if bt c i = 44 then (fr, i) :: cutF c 44 n (i + 1) (i + 1) else cutF c 44 n (i + 1) fr from rfl, show peF c (n + 1) i = if bt c i = 44 then i else peF c n (i + 1) from rfl]
    by_cases h1 : bt c i = 44
    · simp only [if_pos h1]
      rw [if_pos (by omega), show c.size - (i + 1) = n by omega]
    · simp only [if_neg h1]
      exact cutF_pe c n (i + 1) fr (by omega)
/-- a part holds -/
def prh (c w : ByteArray) (a b : Nat) : Bool := stn w (prt c (a, b)).2 != (prt c (a, b)).1
/-- the parts from a place on hold -/
def hlF (c w : ByteArray) (b : Nat) : Bool := if b ≤ c.size then (cutF c 44 (c.size - b) b b).all fun q => prh c w q.1 q.2 else true
theorem hlF_zero (c w : ByteArray) : hlF c w 0 = hld c w := by
  unfold hlF hld cut
  rw [if_pos (Nat.zero_le _)]; rfl
theorem hlF_out {c w : ByteArray} {b : Nat} (h : c.size < b) : hlF c w b = true := by
  unfold hlF; rw [if_neg (by omega)]
theorem hlF_step {c w : ByteArray} {b : Nat} (h : b ≤ c.size) : hlF c w b = (prh c w b (pe c b) && hlF c w (pe c b + 1)) := by
  have hb := pe_bd h
  conv => lhs; unfold hlF
  rw [if_pos h, cutF_pe c (c.size - b) b b (by omega)]
  rw [show peF c (c.size - b) b = pe c b from rfl]
  by_cases h1 : pe c b < c.size
  · rw [if_pos h1]
    unfold hlF
    rw [if_pos (by omega), List.all_cons]
  · rw [if_neg h1, hlF_out (by omega)]
    simp
theorem pe_step {c : ByteArray} {k : Nat} (h : k < c.size) : pe c k = if bt c k = 44 then k else pe c (k + 1) := by
  unfold pe
  rw [show c.size - k = c.size - (k + 1) + 1 by omega]; rfl
theorem pe_out {c : ByteArray} {k : Nat} (h : c.size ≤ k) : pe c k = k := by
  unfold pe; rw [show c.size - k = 0 by omega]; rfl
/-- a piece of a piece -/
theorem ext_ext (t : ByteArray) {a b x y : Nat} (hb : b ≤ t.size) (hy : y ≤ b - a) (hab : a ≤ b) : (t.extract a b).extract x y = t.extract (a + x) (a + y) := by
  have hz : (t.extract a b).size = b - a := by rw [ByteArray.size_extract]; omega
  have hl : ((t.extract a b).extract x y).size = y - x := by rw [ByteArray.size_extract, hz]; omega
  have hr : (t.extract (a + x) (a + y)).size = y - x := by rw [ByteArray.size_extract]; omega
  refine bt_ext (by omega) (fun k hk => ?_)
  rw [hl] at hk
  rw [bt_at _ k (by omega), bt_at _ k (by omega), ByteArray.getElem_extract, ByteArray.getElem_extract, ByteArray.getElem_extract]
  congr 2
  simp only [Nat.add_assoc]
theorem bt_ext0 (t : ByteArray) {a b : Nat} (hb : b ≤ t.size) (hab : a < b) : bt (t.extract a b) (0 : Nat) = bt t a := by
  have hz : (t.extract a b).size = b - a := by rw [ByteArray.size_extract]; omega
  rw [bt_at _ 0 (by omega), bt_at t a (by omega), ByteArray.getElem_extract]
  rfl
theorem ext_size (t : ByteArray) {a b : Nat} (hb : b ≤ t.size) : (t.extract a b).size = b - a := by rw [ByteArray.size_extract]; omega
/-- a part, by its text -/
def ptx (p w : ByteArray) : Bool := if bt p (0 : Nat) = 33 then !stn w (p.extract 1 p.size) else stn w p
theorem prh_ptx {c w : ByteArray} {a b : Nat} (hab : a ≤ b) (hb : b ≤ c.size) : prh c w a b = ptx (c.extract a b) w := by
  have hz := ext_size c (a := a) hb
  unfold prh prt ptx
  by_cases h : a < b
  · rw [bt_ext0 c hb h]
    by_cases h2 : bt c a = 33
    · rw [if_pos ⟨h, h2⟩, if_pos h2, hz, ext_ext c hb (Nat.le_refl _) hab, show a + (b - a) = b by omega]
      simp
    · rw [if_neg (fun q => h2 q.2), if_neg h2]
      simp
  · rw [if_neg (fun q => h q.1), if_neg (by rw [bt_out _ _ (by omega)]; decide)]
    simp
/-- a condition's bytes, from a place on -/
def cdF (c : ByteArray) (k : Nat) : Bool := cndF c (c.size - k) k
theorem cdF_step {c : ByteArray} {k : Nat} (h : k < c.size) : cdF c k = (cndB c k && cdF c (k + 1)) := by
  unfold cdF
  rw [show c.size - k = c.size - (k + 1) + 1 by omega]; rfl
theorem cdF_out {c : ByteArray} {k : Nat} (h : c.size ≤ k) : cdF c k = true := by
  unfold cdF; rw [show c.size - k = 0 by omega]; rfl
/-- a piece stands somewhere, from a place on -/
def snF (w p : ByteArray) (k : Nat) : Bool := stnF w p (w.size + 1 - k) k
theorem snF_out {w p : ByteArray} {k : Nat} (h : w.size < k + p.size) : snF w p k = false := by
  unfold snF
  cases w.size + 1 - k with
  | zero => rfl
  | succ n => unfold stnF; rw [if_neg (by omega)]
theorem snF_step {w p : ByteArray} {k : Nat} (h : k + p.size ≤ w.size) : snF w p k = if w.extract k (k + p.size) = p then true else snF w p (k + 1) := by
  unfold snF
  rw [show w.size + 1 - k = w.size + 1 - (k + 1) + 1 by omega]
  show (if k + p.size ≤ w.size then _ else _) = _
  rw [if_pos h]
theorem snF_zero (w p : ByteArray) : snF w p 0 = stn w p := by unfold snF stn; rfl
end Go.Proofs.YtnfaiaoipeholaaGreatDoor

namespace Go.Proofs.YtnfaiaoipeholaaGreatDoor
section
variable {s t c : ByteArray}
theorem way_at : ∀ (r : List ByteArray) (t : ByteArray), Way c t r → ∀ (i : Nat) (u : ByteArray), r[i]? = some u → ∃ v, (t :: r)[i]? = some v ∧ u ∈ stpT v ∧ hld c (wd u) = true
  | [], t, _, i, u, h => by simp at h
  | x :: r, t, hw, 0, u, h => by
    simp at h
    subst h
    exact ⟨t, rfl, hw.1, hw.2.1⟩
  | x :: r, t, hw, i + 1, u, h => by
    have := way_at r x hw.2.2 i u (by simpa using h)
    simpa using this
theorem way_tree (hk : (chk s).1 = 0) : ∀ (r : List ByteArray) (t : ByteArray) (f : TF), TreeOf s t f → Way c t r → ∀ u ∈ t :: r, ∃ f', TreeOf s u f'
  | [], t, f, h, _, u, hu => by
    simp at hu
    subst hu
    exact ⟨f, h⟩
  | x :: r, t, f, h, hw, u, hu => by
    rcases List.mem_cons.1 hu with e | e
    · rw [e]; exact ⟨f, h⟩
    · obtain ⟨_, f', hf'⟩ := stp_of hk h hw.1
      exact way_tree hk r x f' hf' hw.2.2 u e
theorem lastT_at : ∀ (r : List ByteArray) (t : ByteArray), (t :: r)[r.length]? = some (lastT t r)
  | [], t => rfl
  | x :: r, t => by
    have := lastT_at r x
    simpa [lastT] using this
theorem last_mem (r : List ByteArray) (t : ByteArray) : lastT t r ∈ t :: r := List.mem_of_getElem? (lastT_at r t)
/-- the way's trees are cut out of it again -/
theorem way_cut (hk : (chk s).1 = 0) {f : TF} (h : TreeOf s t f) {r : List ByteArray} (hw : Way c t r) : cut (strOfNums (wayL (t :: r))) 10 = wsp (t :: r) 0 ∧ (wsp (t :: r) 0).map (fun p => (strOfNums (wayL (t :: r))).extract p.1 p.2) = t :: r :=
  cut_way _ (by simp) (fun u hu => by
    obtain ⟨f', hf'⟩ := way_tree hk r t f h hw u hu
    exact hf'.wo)
/-- how long a way is -/
theorem wayL_len : ∀ (l : List ByteArray) (n : Nat), (∀ u ∈ l, u.size ≤ n) → (wayL l).length ≤ l.length * (n + 1)
  | [], n, _ => by simp [wayL]
  | [t], n, h => by
    have := h t (by simp)
    simp only [wayL, List.length_cons, List.length_nil]
    rw [seg_size]; omega
  | t :: u :: r, n, h => by
    have h1 := h t (by simp)
    have h2 := wayL_len (u :: r) n (fun x hx => h x (by simp at hx ⊢; exact .inr hx))
    simp only [wayL, List.length_append, List.length_cons]
    rw [seg_size]
    simp only [List.length_cons] at h2
    rw [show (r.length + 1 + 1) * (n + 1) = (r.length + 1) * (n + 1) + (n + 1) by rw [Nat.add_mul (r.length + 1) 1 (n + 1)]; omega]
    omega
/-- what Reduce answers where nothing is refused -/
structure Rdc (s t c : ByteArray) (b : Nat) (f : TF) (r : List ByteArray) (a y : Nat) : Prop where
  gram : (chk s).1 = 0
  tree : TreeOf s t f
  cnd : cnd c = true
  le : b ≤ 9999
  hold : hld c (wd t) = true
  way : Way c t r
  ask : a ≤ b
  few : a ≤ (1 + r.length) * (stpT t).length
  why : (y = 1 ∧ ∀ u ∈ stpT (lastT t r), hld c (wd u) = false) ∨ (y = 2 ∧ a = b ∧ 0 < (stpT (lastT t r)).length)
theorem rfs_zero {b : Int} (h : rfs s t c b = 0) : (hgt s t).2 = 0 ∧ cnd c = true ∧ 0 ≤ b ∧ b ≤ 9999 ∧ hld c (wd t) = true := by
  unfold rfs at h
  split at h
  · rename_i h0; exact absurd h h0
  rename_i h0
  split at h
  · cases h
  rename_i h1
  split at h
  · cases h
  rename_i h2
  split at h
  · cases h
  rename_i h3
  exact ⟨by omega, by simpa using h1, by omega, by omega, by simpa using h3⟩
theorem hgt_tree (h : (hgt s t).2 = 0) : (chk s).1 = 0 ∧ ∃ (f : TF) (n : Nat), TreeOf s t f ∧ hgt s t = ((n : Int), 0) := by
  obtain ⟨hk, n, hn, _⟩ := hgt_whole h
  obtain ⟨f, h1, h2⟩ := whole_tree (start_f (gram_of hk)) hn
  exact ⟨hk, f, n, h1, whole_hgt hk hn⟩
theorem rdc_ok {b : Int} (h : rfs s t c b = 0) : ∃ f r a y, rdc s t c b = (strOfNums (wayL (t :: r)), a, y, 0) ∧ Rdc s t c b.toNat f r a y := by
  obtain ⟨h1, h2, h3, h4, h5⟩ := rfs_zero h
  obtain ⟨hk, f, n, hf, hn⟩ := hgt_tree h1
  obtain ⟨g1, g2, g3, g4⟩ := gw_ok (c := c) hk (b := b.toNat) (t.size + 1) t f 0 0 hf (by omega) (by omega)
  refine ⟨f, _, _, _, ?_, hk, hf, h2, by omega, h5, g1, g2, by omega, g4⟩
  unfold rdc
  rw [if_neg (by simp [h])]
theorem rdc_no {b : Int} (h : rfs s t c b ≠ 0) : rdc s t c b = (ByteArray.empty, 0, 0, rfs s t c b) := by
  unfold rdc; rw [if_pos h]
end
end Go.Proofs.YtnfaiaoipeholaaGreatDoor

namespace Go.Proofs.YtnfaiaoipeholaaGreatDoor
open Go.RowKit
theorem ba_ne {a b : ByteArray} (h : ¬ a = b) : (a.toList == b.toList) = false := by
  rw [ByteArray.toList_eq, ByteArray.toList_eq]
  simp only [beq_eq_false_iff_ne, ne_eq]
  intro e
  apply h
  obtain ⟨x⟩ := a
  obtain ⟨y⟩ := b
  have : x = y := Array.toList_inj.1 e
  rw [this]
theorem ba_eq {a b : ByteArray} (h : a = b) : (a.toList == b.toList) = true := by subst h; simp

set_option maxHeartbeats 400000 in
theorem mayStand_any (c : ByteArray) (q : Int) (k : Nat) (w : World) (hc : c.size ≤ maxLen) (hq : q = k) (hk : k < c.size) : Calls Tryz.prog 114 #[.string c, .int .i64 q] w fun e w' => e = .returned (.bool (cndB c k)) ∧ w' = w := by
  subst hq
  have hc' := hc
  unfold maxLen at hc'
  generalize hR : cndB c k = R
  unfold cndB at hR
  have hb := bt_bd c k
  by_cases h33 : bt c k = 33
  · have H33 := hide h33
    rw [h33, show cL 33 = false by decide, show ((33 : Int) == 44) = false by decide, show ((33 : Int) == 33) = true by decide, Bool.false_or, Bool.false_or, Bool.true_and] at hR
    clear h33
    by_cases h0 : k = 0
    · subst h0
      rw [show ((0 : Nat) == 0) = true by decide, Bool.true_or] at hR
      subst hR
      go_enter Tryz.func114, Tryz.ntmps114
      go_wp2_with (go_at_call 87; refine (at_any _ _ _ hc).mono ?_; rw [show ((0 : Nat) : Int) = 0 from rfl] at H33; rw [unhide H33]; rintro e w' ⟨rfl, rfl⟩)
      go_ret; exact ⟨rfl, rfl⟩
    · have hk0 : ((k : Int) == 0) = false := by simp; omega
      rw [show (k == 0) = false by simp [h0], Bool.false_or] at hR
      have HR := hide hR
      clear hR
      go_enter Tryz.func114, Tryz.ntmps114
      go_wp2_with (go_at_call 87; refine (at_any _ _ _ hc).mono ?_; first | (rw [unhide H33]; rintro e w' ⟨rfl, rfl⟩) | (rintro e w' ⟨rfl, rfl⟩))
      go_ret; exact ⟨ret_bool (unhide HR), rfl⟩
  · have h33' : (bt c k == 33) = false := by simp [h33]
    rw [h33', Bool.false_and, Bool.or_false] at hR
    have HR := hide hR
    clear hR
    go_enter Tryz.func114, Tryz.ntmps114
    go_wp2_with (first | (go_at_call 87; refine (at_any _ _ _ hc).mono ?_; rintro e w' ⟨rfl, rfl⟩) | (go_at_call 102; refine (isLetter_any _ _).mono ?_; rintro e w' ⟨rfl, rfl⟩))
    all_goals (go_ret; exact ⟨ret_bool (by rw [← unhide HR, Bool.or_comm]; try simp_all), rfl⟩)

set_option maxHeartbeats 400000 in
theorem isCondition_any (c : ByteArray) (w : World) (hc : c.size ≤ maxLen) : Calls Tryz.prog 62 #[.string c] w fun e w' => e = .returned (.bool (cnd c)) ∧ w' = w := by
  have hc' := hc
  unfold maxLen at hc'
  generalize hR : cnd c = R
  unfold cnd at hR
  have HR := hide hR
  clear hR
  by_cases hz : c.size ≤ 300
  · have HR2 : Hid (cdF c 0 = R) := hide (by rw [← unhide HR]; simp [hz, cdF])
    clear HR
    go_enter Tryz.func62, Tryz.ntmps62
    go_wp2
    go_loop [3] (fun iv => ∃ k : Nat, iv = .int .i64 k ∧ k ≤ c.size ∧ Hid (cdF c k = R)) (fun iv => c.size - (intOf iv).toNat)
    case atStart => exact ⟨0, rfl, Nat.zero_le _, HR2⟩
    case round =>
      obtain ⟨k, rfl, hk, hr⟩ := hrel
      by_cases hlt : k < c.size
      · have hst := unhide hr
        rw [cdF_step hlt] at hst
        cases h1 : cndB c k
        · rw [h1, Bool.false_and] at hst
          have H1 := hide h1
          have HS := hide hst
          clear h1 hst hr
          go_wp2_with (go_at_call 114; refine (mayStand_any c _ k _ hc rfl hlt).mono ?_; rw [unhide H1]; rintro e w' ⟨rfl, rfl⟩)
          go_ret; exact ⟨ret_bool (unhide HS), rfl⟩
        · rw [h1, Bool.true_and] at hst
          have H1 := hide h1
          have HS := hide hst
          clear h1 hst hr
          go_wp2_with (go_at_call 114; refine (mayStand_any c _ k _ hc rfl hlt).mono ?_; rw [unhide H1]; rintro e w' ⟨rfl, rfl⟩)
          go_round
          case rel => exact ⟨k + 1, by go_num, by omega, HS⟩
          case measure => simp [intOf]; omega
      · have HS : Hid (true = R) := hide (by rw [← unhide hr, cdF_out (by omega)])
        clear hr
        go_wp2
        go_ret; exact ⟨ret_bool (unhide HS), rfl⟩
  · have HR2 : Hid (false = R) := hide (by rw [← unhide HR]; simp [hz])
    clear HR
    go_enter Tryz.func62, Tryz.ntmps62
    go_wp2
    go_ret; exact ⟨ret_bool (unhide HR2), rfl⟩

set_option maxHeartbeats 400000 in
theorem partEnd_any (c : ByteArray) (q : Int) (b : Nat) (w : World) (hc : c.size ≤ maxLen) (hq : q = b) (hb : b ≤ c.size) : Calls Tryz.prog 115 #[.string c, .int .i64 q] w fun e w' => e = .returned (.int .i64 (pe c b)) ∧ w' = w := by
  subst hq
  have hc' := hc
  unfold maxLen at hc'
  generalize hR : pe c b = R
  have HR := hide hR
  clear hR
  go_enter Tryz.func115, Tryz.ntmps115
  go_wp2
  go_loop [5] (fun iv => ∃ k : Nat, iv = .int .i64 k ∧ k ≤ c.size ∧ Hid (pe c k = R)) (fun iv => c.size - (intOf iv).toNat)
  case atStart => exact ⟨b, rfl, hb, HR⟩
  case round =>
    obtain ⟨k, rfl, hk, hr⟩ := hrel
    by_cases hlt : k < c.size
    · have hbt := bt_at c k hlt
      have hst := unhide hr
      rw [pe_step hlt] at hst
      by_cases h44 : bt c k = 44
      · rw [if_pos h44] at hst
        have hc44 : (c[k].toNat : Int) = 44 := by rw [← hbt]; exact h44
        have HS := hide hst
        clear hst hr hbt h44
        go_wp2
        go_ret; exact ⟨ret_int (by rw [unhide HS]), rfl⟩
      · rw [if_neg h44] at hst
        have hc44 : ((c[k].toNat : Int) == 44) = false := by rw [← hbt]; simp [h44]
        have HS := hide hst
        clear hst hr hbt h44
        go_wp2
        go_round
        case rel => exact ⟨k + 1, by go_num, by omega, HS⟩
        case measure => simp [intOf]; omega
    · have HS : Hid (k = R) := hide (by rw [← unhide hr, pe_out (by omega)])
      clear hr
      go_wp2
      go_ret; exact ⟨ret_int (by rw [unhide HS]), rfl⟩

set_option maxHeartbeats 400000 in
theorem standsIn_any (p u : ByteArray) (w : World) (hp : p.size ≤ 300) (hu : u.size ≤ 10000) : Calls Tryz.prog 148 #[.string p, .string u] w fun e w' => e = .returned (.bool (stn u p)) ∧ w' = w := by
  generalize hR : stn u p = R
  have HR : Hid (snF u p 0 = R) := hide (by rw [snF_zero]; exact hR)
  clear hR
  go_enter Tryz.func148, Tryz.ntmps148
  go_wp2
  go_loop [5] (fun iv => ∃ k : Nat, iv = .int .i64 k ∧ k ≤ u.size + 1 ∧ Hid (snF u p k = R)) (fun iv => u.size + 1 - (intOf iv).toNat)
  case atStart => exact ⟨0, rfl, Nat.zero_le _, HR⟩
  case round =>
    obtain ⟨k, rfl, hk, hr⟩ := hrel
    by_cases hlt : k + p.size ≤ u.size
    · have hst := unhide hr
      rw [snF_step hlt] at hst
      by_cases h1 : u.extract k (k + p.size) = p
      · rw [if_pos h1] at hst
        have HS := hide hst
        have hne := ba_eq h1
        clear hst hr h1
        go_wp2
        go_ret; exact ⟨ret_bool (unhide HS), rfl⟩
      · rw [if_neg h1] at hst
        have HS := hide hst
        have hne := ba_ne h1
        clear hst hr h1
        go_wp2
        exact ⟨⟨k + 1, by go_num, by omega, HS⟩, by simp [intOf]; omega⟩
    · have HS : Hid (false = R) := hide (by rw [← unhide hr, snF_out (by omega)])
      clear hr
      go_wp2
      go_ret; exact ⟨ret_bool (unhide HS), rfl⟩
end Go.Proofs.YtnfaiaoipeholaaGreatDoor

namespace Go.Proofs.YtnfaiaoipeholaaGreatDoor
open Go.RowKit

set_option maxHeartbeats 400000 in
theorem partHolds_any (p u : ByteArray) (w : World) (hp : p.size ≤ 300) (hu : u.size ≤ 10000) : Calls Tryz.prog 116 #[.string p, .string u] w fun e w' => e = .returned (.bool (ptx p u)) ∧ w' = w := by
  have hp' : p.size ≤ maxLen := by unfold maxLen; omega
  generalize hR : ptx p u = R
  unfold ptx at hR
  by_cases h33 : bt p (0 : Nat) = 33
  · have hpos : 0 < p.size := bt_lt (by rw [h33]; decide)
    rw [if_pos h33] at hR
    have H33 : Hid (bt p 0 = 33) := hide h33
    have HR := hide hR
    have hz : (p.extract 1 p.size).size ≤ 300 := by rw [ext_size p (Nat.le_refl _)]; omega
    clear hR h33
    go_enter Tryz.func116, Tryz.ntmps116
    go_wp2_with (first | (go_at_call 87; refine (at_any _ _ _ hp').mono ?_; rw [unhide H33]; rintro e w' ⟨rfl, rfl⟩) | (go_at_call 148; refine (standsIn_any _ _ _ hz hu).mono ?_; rintro e w' ⟨rfl, rfl⟩))
    go_ret; exact ⟨ret_bool (by rw [← unhide HR]), rfl⟩
  · rw [if_neg h33] at hR
    have h33' : (bt p 0 == 33) = false := by
      have : bt p 0 ≠ 33 := h33
      simp [this]
    have HR := hide hR
    clear hR h33
    go_enter Tryz.func116, Tryz.ntmps116
    go_wp2_with (first | (go_at_call 87; refine (at_any _ _ _ hp').mono ?_; rintro e w' ⟨rfl, rfl⟩) | (go_at_call 148; refine (standsIn_any _ _ _ hp hu).mono ?_; rintro e w' ⟨rfl, rfl⟩))
    go_ret; exact ⟨ret_bool (by rw [← unhide HR]), rfl⟩

set_option maxHeartbeats 400000 in
theorem holds_any (c u : ByteArray) (w : World) (hc : c.size ≤ 300) (hu : u.size ≤ 10000) : Calls Tryz.prog 64 #[.string c, .string u] w fun e w' => e = .returned (.bool (hld c u)) ∧ w' = w := by
  have hc' : c.size ≤ maxLen := by unfold maxLen; omega
  generalize hR : hld c u = R
  have HR : Hid (hlF c u 0 = R) := hide (by rw [hlF_zero]; exact hR)
  clear hR
  go_enter Tryz.func64, Tryz.ntmps64
  go_wp2
  go_loop [5] (fun iv => ∃ k : Nat, iv = .int .i64 k ∧ k ≤ c.size + 1 ∧ Hid (hlF c u k = R)) (fun iv => c.size + 1 - (intOf iv).toNat)
  case atStart => exact ⟨0, rfl, Nat.zero_le _, HR⟩
  case round =>
    obtain ⟨k, rfl, hk, hr⟩ := hrel
    by_cases hlt : k ≤ c.size
    · have hst := unhide hr
      have hpb := pe_bd hlt
      obtain ⟨hp1, hp2⟩ := hpb
      rw [hlF_step hlt, prh_ptx hp1 hp2] at hst
      have hz : (c.extract k (pe c k)).size ≤ 300 := by rw [ext_size c hp2]; omega
      cases h1 : ptx (c.extract k (pe c k)) u
      · rw [h1, Bool.false_and] at hst
        have H1 := hide h1
        have HS := hide hst
        clear h1 hst hr
        go_wp2_with (first | (go_at_call 115; refine (partEnd_any c _ k _ hc' rfl hlt).mono ?_; rintro e w' ⟨rfl, rfl⟩) | (go_at_call 116; refine (partHolds_any _ _ _ hz hu).mono ?_; rw [unhide H1]; rintro e w' ⟨rfl, rfl⟩))
        go_ret; exact ⟨ret_bool (unhide HS), rfl⟩
      · rw [h1, Bool.true_and] at hst
        have H1 := hide h1
        have HS := hide hst
        clear h1 hst hr
        go_wp2_with (first | (go_at_call 115; refine (partEnd_any c _ k _ hc' rfl hlt).mono ?_; rintro e w' ⟨rfl, rfl⟩) | (go_at_call 116; refine (partHolds_any _ _ _ hz hu).mono ?_; rw [unhide H1]; rintro e w' ⟨rfl, rfl⟩))
        go_round
        case rel => exact ⟨pe c k + 1, by go_num, by omega, HS⟩
        case measure => simp [intOf]; omega
    · have HS : Hid (true = R) := hide (by rw [← unhide hr, hlF_out (by omega)])
      clear hr
      go_wp2
      go_ret; exact ⟨ret_bool (unhide HS), rfl⟩

/-- bytes as cells -/
def ubs (T : List Int) : List Value := T.map (Value.int .u8)
theorem ubs_push (T : List Int) (c : Int) : ubs (T ++ [c]) = ubs T ++ [.int .u8 c] := by simp [ubs]
theorem ubs_strs (T : List Int) {w : World} {base : Nat} {v : Value} (h : w.ownsRow base 5 1 v T.length (ubs T)) : ∃ ao cap, v = .slice ao T.length cap ∧ (convert 83 9 (.slice ao T.length cap)).run Tryz.prog w = .ok (.string (strOfNums T)) w := by
  rcases h.2 with ⟨e, h0⟩ | ⟨g, cap, cur, e, _⟩
  · have hT : T = [] := List.length_eq_zero_iff.1 h0
    subst hT
    refine ⟨none, 0, e, ?_⟩
    have := run_convert_bytes_nil (P := Tryz.prog) (w := w) 83 5 Tryz.underlying83 Tryz.underlying5 0 0 9 Tryz.underlying9
    exact this
  · subst e
    refine ⟨some ⟨g, 0, none⟩, cap, rfl, run_convert_bytes_arg _ 83 5 Tryz.underlying83 Tryz.underlying5 g 0 T.length cap T rfl (fun i hi => ?_) _ Tryz.underlying9⟩
    rw [Nat.zero_add, h.cellAt i (by omega)]
    unfold ubs
    rw [List.getElem?_map, List.getElem?_eq_getElem hi, List.getD_eq_getElem?_getD, List.getElem?_eq_getElem hi]; rfl

set_option maxHeartbeats 400000 in
set_option maxRecDepth 1000000 in
theorem treeWord_any (t : ByteArray) (w : World) (ht : t.size ≤ 10000) : Calls Tryz.prog 63 #[.string t] w fun e w' => e = .returned (.string (wd t)) ∧ Below w.heap.size w w' := by
  generalize hR : wd t = R
  unfold wd seg at hR
  have HR := hide hR
  clear hR
  obtain ⟨i1, hi1, hy0, hy1, hy2⟩ := info_parts Tryz.infoByte
  have hmk : ∀ w : World, (Instr.makeSlice 83 (.int .i64 0) (.int .i64 0)).run Tryz.prog w = .ok (.slice (some ⟨w.heap.size, 0, none⟩) 0 0) (w.alloc (.cells (madeCells #[.int .u8 0] 0) 5)) := fun w =>
    run_make_row' (P := Tryz.prog) 83 5 (.int .u8 0) 1 Tryz.underlying83 Tryz.infoByte rfl .i64 .i64 0 (by omega) (by omega) w
  go_enter Tryz.func63, Tryz.ntmps63
  go_wp2_with fail
  go_loopw [3, 4] (fun ov iv wr => ∃ (k : Nat) (L : List Int), iv = .int .i64 k ∧ k ≤ t.size ∧ L.length ≤ k ∧ wr.ownsRow w.heap.size 5 1 ov L.length (ubs L) ∧ Below w.heap.size w wr ∧ Hid (L = (segF t k 0).filter cL)) (fun _ jv _ => t.size - (intOf jv).toNat)
  case atStart => exact ⟨0, [], rfl, Nat.zero_le _, Nat.le_refl _, World.ownsRow_made w _ 0 (Nat.le_refl _) (by unfold maxLen; omega) (by simp [madeCells]), (Below.refl _ _).alloc (Nat.le_refl _) _, hide rfl⟩
  case round =>
    obtain ⟨k, L, rfl, hk, hL, hown, hbel, hD⟩ := hrel
    have HB := hide hbel
    have HO := hide hown
    clear hbel hmk
    by_cases hlt : k < t.size
    · have hbt := bt_at t k hlt
      have hstep : (segF t (k + 1) 0).filter cL = (segF t k 0).filter cL ++ [bt t k].filter cL := by
        rw [segF_add, List.filter_append, Nat.zero_add]; rfl
      rw [hbt] at hstep
      have hbd := (t[k]).toNat_lt
      generalize hx : ((t[k].toNat : Nat) : Int) = x at *
      cases h1 : cL x
      · have HF : Hid (L = (segF t (k + 1) 0).filter cL) := hide (by rw [hstep, unhide hD]; simp [h1])
        have H1 := hide h1
        clear hstep h1 hown
        go_wp2_with (go_at_call 102; refine (isLetter_any _ _).mono ?_; rw [unhide H1]; rintro e w' ⟨rfl, rfl⟩)
        go_roundw
        case rel => exact ⟨k + 1, L, by go_num, by omega, by omega, unhide HO, unhide HB, HF⟩
        case measure => simp [intOf]; omega
      · have HF : Hid (L ++ [x] = (segF t (k + 1) 0).filter cL) := hide (by rw [hstep, unhide hD]; simp [h1])
        have H1 := hide h1
        clear hstep h1
        go_wp2_with (first
          | (go_at_call 102; refine (isLetter_any _ _).mono ?_; rw [unhide H1]; rintro e w' ⟨rfl, hw⟩; replace hw := hw.symm; subst hw)
          | (at_builtin; refine wpList_append_lies _ rfl _ _ 83 rfl w.heap.size 5 i1 (.int .u8 0) 1 1 Tryz.underlying83 hi1 hy0 hy1 hy2 rfl (by decide) _ _ _ rfl (hown.alloc _) ⟨_, 0, none⟩ 1 1 [.int .u8 x] rfl rfl ?c1 ?c2 ?c3 ?c4 ?c5 ?c6 _ rfl ?_))
        case c1 => exact World.news_of_block (heap_alloc_new _ _)
        case c2 => intro u hu; simp at hu; subst hu; rfl
        case c3 => omega
        case c4 => unfold maxLen; omega
        case c5 => omega
        case c6 => have := (unhide HB).size; simp; omega
        · intro g1 cap1 w3 hown3 hg3 hb3 hlt3
          have HO3 := hide hown3
          have HB3 := hide (((unhide HB).alloc (unhide HB).size _).grown hg3 (by have := (unhide HB).size; simp; omega) (fun j hj => (hown.lt j hj).1))
          clear hown3 hg3 hb3 hlt3 hown
          go_wp2
          go_roundw
          case rel => exact ⟨k + 1, L ++ [x], by go_num, by omega, by simp; omega, by rw [ubs_push, List.length_append]; exact unhide HO3, unhide HB3, HF⟩
          case measure => simp [intOf]; omega
    · have HF : Hid (R = strOfNums L) := hide (by rw [← unhide HR, unhide hD, show t.size - 0 = k by omega])
      obtain ⟨ao, cap, rfl, hcv⟩ := ubs_strs L hown
      clear HR hown
      go_wp2
      go_ret
      exact ⟨by rw [unhide HF]; rfl, unhide HB⟩
end Go.Proofs.YtnfaiaoipeholaaGreatDoor

namespace Go.Proofs.YtnfaiaoipeholaaGreatDoor
open Go.RowKit
theorem Tryz.infoInt1 : (Tryz.prog.info? 3).map (fun i => (i.zero, i.size, i.bytes)) = some (some (.int .i64 0), 1, 8) := by kernel_rfl
/-- places as cells -/
def nis (L : List Nat) : List Value := L.map fun (n : Nat) => Value.int .i64 (n : Int)
theorem nis_push (L : List Nat) (n : Nat) : nis (L ++ [n]) = nis L ++ [.int .i64 (n : Int)] := by simp [nis]
/-- ends while they are found -/
def enF (L : List Int) (i : Nat) : Value := .int .i64 (L.getD i 0)
theorem enF_set {L : List Int} {k i : Nat} {v : Int} (hk : k < L.length) : (if i = k then Value.int .i64 v else enF L i) = enF (L.set k v) i := by
  unfold enF
  rw [List.getD_eq_getElem?_getD, List.getD_eq_getElem?_getD]
  by_cases e : i = k
  · subst e; rw [if_pos rfl, List.getElem?_set_self hk]; rfl
  · rw [if_neg e, List.getElem?_set_ne (fun h => e h.symm)]
/-- the open ones, and the ends -/
structure EnI (w wr : World) (t : ByteArray) (k : Nat) (ov : Value) (S : List Int × List Nat) : Prop where
  row : wr.rowIs w.heap.size 3 t.size (enF S.1)
  own : wr.ownsRow (w.heap.size + 1) 3 1 ov S.2.length (nis S.2)
  bel : Below w.heap.size w wr
  lt : w.heap.size + 1 ≤ wr.heap.size

set_option maxHeartbeats 1000000 in
set_option maxRecDepth 1000000 in
theorem endsOf_any (t : ByteArray) (w : World) (ht : t.size ≤ 2000) : Calls Tryz.prog 149 #[.string t] w fun e w' => e = .returned (.slice (some ⟨w.heap.size, 0, none⟩) t.size t.size) ∧ w'.rowIs w.heap.size 3 t.size (enF (ensL t)) ∧ Below w.heap.size w w' := by
  generalize hR : ensL t = R
  have HR := hide hR
  clear hR
  obtain ⟨i1, hi1, hy0, hy1, hy2⟩ := info_parts Tryz.infoInt1
  have hmk : ∀ w : World, (Instr.makeSlice 92 (.int .i64 (t.size : Int)) (.int .i64 (t.size : Int))).run Tryz.prog w = .ok (.slice (some ⟨w.heap.size, 0, none⟩) t.size t.size) (w.alloc (.cells (madeCells #[.int .i64 0] t.size) 3)) := fun w =>
    run_make_row' (P := Tryz.prog) 92 3 (.int .i64 0) 8 Tryz.underlying92 Tryz.infoInt1 rfl .i64 .i64 t.size (by omega) (by omega) w
  have hmk0 : ∀ w : World, (Instr.makeSlice 92 (.int .i64 0) (.int .i64 0)).run Tryz.prog w = .ok (.slice (some ⟨w.heap.size, 0, none⟩) 0 0) (w.alloc (.cells (madeCells #[.int .i64 0] 0) 3)) := fun w =>
    run_make_row' (P := Tryz.prog) 92 3 (.int .i64 0) 8 Tryz.underlying92 Tryz.infoInt1 rfl .i64 .i64 0 (by omega) (by omega) w
  have HS : Hid (EnI w ((w.alloc (.cells (madeCells #[.int .i64 0] t.size) 3)).alloc (.cells (madeCells #[.int .i64 0] 0) 3)) t 0 (.slice (some ⟨w.heap.size + 1, 0, none⟩) 0 0) (List.replicate t.size 0, [])) := hide (by
    have r1 := World.rowIs_made w (.int .i64 0) t.size 3
    have b1 : Below w.heap.size w (w.alloc (.cells (madeCells #[.int .i64 0] t.size) 3)) := (Below.refl _ _).alloc (Nat.le_refl _) _
    generalize hw1 : w.alloc (.cells (madeCells #[.int .i64 0] t.size) 3) = w1 at *
    have hz1 : w1.heap.size = w.heap.size + 1 := by rw [← hw1]; simp
    refine ⟨(r1.alloc _).congr (fun i hi => ?_), ?_, b1.alloc (by omega) _, by simp; omega⟩
    · unfold enF
      rw [List.getD_eq_getElem?_getD, List.getElem?_replicate_of_lt hi]; rfl
    · have := World.ownsRow_made (base := w.heap.size + 1) (e := 3) (size := 1) w1 (madeCells #[.int .i64 0] 0) 0 (by omega) (by unfold maxLen; omega) (by simp [madeCells])
      rw [hz1] at this
      exact this)
  go_enter Tryz.func149, Tryz.ntmps149
  go_wp2_with fail
  generalize hw1 : World.alloc _ _ = w1 at *
  clear hw1 hmk hmk0
  go_loopw [4, 5] (fun ov iv wr => ∃ (k : Nat) (ov' : Value), iv = .int .i64 k ∧ ov = ov' ∧ k ≤ t.size ∧ Hid (EnI w wr t k ov (esF t k 0 (List.replicate t.size 0, [])))) (fun _ iv _ => t.size - (intOf iv).toNat)
  case atStart => exact ⟨0, _, rfl, rfl, Nat.zero_le _, HS⟩
  case round =>
    obtain ⟨k, ov, rfl, hov, hk, hI⟩ := hrel
    replace hov := hov.symm
    subst hov
    clear HS
    by_cases hlt : k < t.size
    · have hstp := esF_succ t k (List.replicate t.size 0, [])
      have hlen : (esF t k 0 (List.replicate t.size 0, [])).1.length = t.size := by rw [esF_len]; simp
      obtain ⟨hop1, hop2⟩ := esF_open t k
      generalize esF t k 0 (List.replicate t.size 0, []) = S at *
      obtain ⟨L, O⟩ := S
      simp only at hlen hop1 hop2
      have hbt := bt_at t k hlt
      have hbd := (t[k]).toNat_lt
      obtain ⟨hrow, hown, hbel, hsz⟩ := unhide hI
      simp only at hrow hown
      have q1 := hrow.cell hlt
      have q2 := hrow.frozen k
      have hrow1 := (hrow.set k (.int .i64 ((k : Int) + 1))).congr (fun i hi => enF_set (v := (k : Int) + 1) (by omega))
      have hown1 := ownsRow_setCell_below hown (a := ⟨w.heap.size, k, none⟩) (Nat.lt_succ_self _) (.int .i64 ((k : Int) + 1))
      have hbel1 := hbel.setCell (p := ⟨w.heap.size, k, none⟩) (Nat.le_refl _) (.int .i64 ((k : Int) + 1))
      have hsz1 : w.heap.size + 1 ≤ (wr.setCell ⟨w.heap.size, k, none⟩ (.int .i64 ((k : Int) + 1))).heap.size := by simpa using hsz
      unfold esT at hstp
      simp only at hstp
      rw [hbt] at hstp
      generalize hx : ((t[k].toNat : Nat) : Int) = x at *
      cases h1 : cO x
      · have H1 := hide h1
        rw [if_neg (by rw [h1]; decide)] at hstp
        cases h2 : cX x
        · have H2 := hide h2
          rw [if_neg (by rw [h2]; simp)] at hstp
          have HE : Hid (EnI w (wr.setCell ⟨w.heap.size, k, none⟩ (.int .i64 ((k : Int) + 1))) t (k + 1) ov (esF t (k + 1) 0 (List.replicate t.size 0, []))) := hide (by rw [hstp]; exact ⟨hrow1, hown1, hbel1, hsz1⟩)
          obtain ⟨ao, cap, rfl⟩ : ∃ ao cap, ov = .slice ao O.length cap := by
            rcases hown.2 with ⟨e, h0⟩ | ⟨g, cap, _, e, _⟩
            · exact ⟨none, 0, by rw [e, h0]⟩
            · exact ⟨_, cap, e⟩
          clear hrow hown hbel hrow1 hown1 hbel1 hstp h1 h2 hI
          go_wp2_with (first | (go_at_call 92; refine (isOpening_any _ _).mono ?_; rw [unhide H1]; rintro e w' ⟨rfl, hw⟩; replace hw := hw.symm; subst hw) | (go_at_call 140; refine (isClosing_any _ _).mono ?_; rw [unhide H2]; rintro e w' ⟨rfl, hw⟩; replace hw := hw.symm; subst hw))
          go_roundw
          case rel => exact ⟨k + 1, _, by go_num, rfl, by omega, HE⟩
          case measure => simp [intOf]; omega
        · have H2 := hide h2
          by_cases hO : O = []
          · rw [if_neg (by simp [hO])] at hstp
            subst hO
            have HE : Hid (EnI w (wr.setCell ⟨w.heap.size, k, none⟩ (.int .i64 ((k : Int) + 1))) t (k + 1) ov (esF t (k + 1) 0 (List.replicate t.size 0, []))) := hide (by rw [hstp]; exact ⟨hrow1, hown1, hbel1, hsz1⟩)
            obtain ⟨ao, cap, rfl⟩ : ∃ ao cap, ov = .slice ao 0 cap := by
              rcases hown.2 with ⟨e, h0⟩ | ⟨g, cap, _, e, _⟩
              · exact ⟨none, 0, by rw [e]⟩
              · exact ⟨_, cap, e⟩
            clear hrow hown hbel hrow1 hown1 hbel1 hstp h1 h2 hI
            go_wp2_with (first | (go_at_call 92; refine (isOpening_any _ _).mono ?_; rw [unhide H1]; rintro e w' ⟨rfl, hw⟩; replace hw := hw.symm; subst hw) | (go_at_call 140; refine (isClosing_any _ _).mono ?_; rw [unhide H2]; rintro e w' ⟨rfl, hw⟩; replace hw := hw.symm; subst hw))
            go_roundw
            case rel => exact ⟨k + 1, _, by go_num, rfl, by omega, HE⟩
            case measure => simp [intOf]; omega
          · rw [if_pos ⟨h2, hO⟩] at hstp
            obtain ⟨O', j, rfl⟩ : ∃ O' j, O = O' ++ [j] := ⟨O.dropLast, O.getLast hO, (List.dropLast_concat_getLast hO).symm⟩
            have hj : j < k := hop1 j (by simp)
            have hjt : j < t.size := by omega
            simp only [List.getLastD_concat, List.dropLast_concat] at hstp
            simp only [List.length_append, List.length_cons, List.length_nil, Nat.zero_add] at hown hown1 hop2
            obtain ⟨g, cap, rfl, hg1, hg2⟩ := hown.form (by omega)
            have hcj := hown1.cells (g := g) rfl O'.length (.int .i64 (j : Int)) (by simp [nis])
            rw [Addr.add_lit, Nat.zero_add] at hcj
            have q3 := hrow1.cell hjt
            have q4 := hrow1.frozen j
            have hcap : O'.length + 1 ≤ cap := by
              rcases hown.2 with ⟨e, h0⟩ | ⟨g', cap', _, e, _, _, hh, _⟩
              · cases e
              · cases e; exact hh
            have hrow2 := (hrow1.set j (.int .i64 ((k : Int) + 1))).congr (fun i hi => enF_set (v := (k : Int) + 1) (by simp; omega))
            have hown2 := ownsRow_pop (xs := nis O') (n := O'.length) (size := 1) (by unfold nis; rw [List.length_map, Nat.mul_one]) (by rw [← nis_push]; exact ownsRow_setCell_below hown1 (a := ⟨w.heap.size, j, none⟩) (Nat.lt_succ_self _) (.int .i64 ((k : Int) + 1)))
            have hbel2 := hbel1.setCell (p := ⟨w.heap.size, j, none⟩) (Nat.le_refl _) (.int .i64 ((k : Int) + 1))
            have HE : Hid (EnI w ((wr.setCell ⟨w.heap.size, k, none⟩ (.int .i64 ((k : Int) + 1))).setCell ⟨w.heap.size, j, none⟩ (.int .i64 ((k : Int) + 1))) t (k + 1) (.slice (some ⟨g, 0, none⟩) O'.length cap) (esF t (k + 1) 0 (List.replicate t.size 0, []))) := hide (by rw [hstp]; exact ⟨hrow2, hown2, hbel2, by simpa using hsz⟩)
            clear hrow hown hbel hrow1 hown1 hbel1 hstp h1 h2 hI hrow2 hown2 hbel2
            go_wp2_with (first | (go_at_call 92; refine (isOpening_any _ _).mono ?_; rw [unhide H1]; rintro e w' ⟨rfl, hw⟩; replace hw := hw.symm; subst hw) | (go_at_call 140; refine (isClosing_any _ _).mono ?_; rw [unhide H2]; rintro e w' ⟨rfl, hw⟩; replace hw := hw.symm; subst hw))
            go_roundw
            case rel => exact ⟨k + 1, _, by go_num, rfl, by omega, HE⟩
            case measure => simp [intOf]; omega
      · have H1 := hide h1
        have h2 : cX x = false := by
          cases e : cX x
          · rfl
          · have := cX_vals e; have := cO_vals h1; omega
        have H2 := hide h2
        rw [if_pos h1] at hstp
        have HST := hide hstp
        have HRW := hide hrow1
        have HBL := hide hbel1
        have HSZ := hide hsz1
        clear hrow hown hbel hrow1 hbel1 hstp h1 h2 hI hsz1
        go_wp2_with (first
          | (go_at_call 92; refine (isOpening_any _ _).mono ?_; rw [unhide H1]; rintro e w' ⟨rfl, hw⟩; replace hw := hw.symm; subst hw)
          | (at_builtin; refine wpList_append_lies _ rfl _ _ 92 rfl (w.heap.size + 1) 3 i1 (.int .i64 0) 1 8 Tryz.underlying92 hi1 hy0 hy1 hy2 rfl (by decide) _ _ _ rfl (hown1.alloc _) ⟨_, 0, none⟩ 1 1 [.int .i64 (k : Int)] rfl rfl ?c1 ?c2 ?c3 ?c4 ?c5 ?c6 _ rfl ?_))
        case c1 =>
          refine World.news_of_block (fr := (0, 0)) (t := 3) ?_
          have h := heap_alloc_new (wr.setCell ⟨w.heap.size, k, none⟩ (.int .i64 ((k : Int) + 1))) (.cells #[.int .i64 (k : Int)] 3)
          rw [show (wr.setCell ⟨w.heap.size, k, none⟩ (.int .i64 ((k : Int) + 1))).heap.size = wr.heap.size by simp] at h
          exact h
        case c2 => intro u hu; simp at hu; subst hu; rfl
        case c3 => omega
        case c4 => unfold maxLen; omega
        case c5 => omega
        case c6 => have := unhide HSZ; simp at this; simp; omega
        · intro g1 cap1 w3 hown3 hg3 hb3 hlt3
          have hgr : Below (w.heap.size + 1) (wr.setCell ⟨w.heap.size, k, none⟩ (.int .i64 ((k : Int) + 1))) w3 := ((Below.refl _ _).alloc (unhide HSZ) _).grown hg3 (by have := unhide HSZ; simp at this; simp; omega) (fun j hj => (hown1.lt j hj).1)
          have HE : Hid (EnI w w3 t (k + 1) (.slice (some ⟨g1, 0, none⟩) (O.length + 1) cap1) (esF t (k + 1) 0 (List.replicate t.size 0, []))) := hide (by
            rw [unhide HST]
            refine ⟨(unhide HRW).of_block (hgr.block _ (Nat.lt_succ_self _)), ?_, (unhide HBL).trans (hgr.mono (Nat.le_succ _)), Nat.le_trans (unhide HSZ) hgr.size⟩
            simp only
            rw [nis_push, List.length_append]
            exact hown3)
          clear hown3 hg3 hb3 hlt3 hgr HRW HBL hown1 HST
          go_wp2_with (first | (go_at_call 140; refine (isClosing_any _ _).mono ?_; rw [unhide H2]; rintro e w' ⟨rfl, hw⟩; replace hw := hw.symm; subst hw))
          go_roundw
          case rel => exact ⟨k + 1, _, by go_num, rfl, by omega, HE⟩
          case measure => simp [intOf]; omega
    · have hkt : k = t.size := by omega
      subst hkt
      have HF : Hid (R = (esF t t.size 0 (List.replicate t.size 0, [])).1) := hide (by rw [← unhide HR]; rfl)
      clear HR
      go_wp2
      go_ret
      exact ⟨rfl, by rw [unhide HF]; exact (unhide hI).row, (unhide hI).bel⟩
end Go.Proofs.YtnfaiaoipeholaaGreatDoor
