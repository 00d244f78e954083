/- The reference reads a grammar without a fault: the walk; its Height. -/
import Derived.Test.YtnfaiaoipeholaaGreatRExpr
import Derived.Test.YtnfaiaoipeholaaGreatRTr
import Derived.Test.YtnfaiaoipeholaaGreatRefChk
namespace Go.Proofs.YtnfaiaoipeholaaGreat
open Go.RowKit

theorem expr_every (s : ByteArray) (hs : s.size ≤ 300) (n : Nat) : SaidX s n := by
  induction n using Nat.strongRecOn with
  | _ n ih => exact expr_any s hs n ih

theorem rlF_none (s : ByteArray) (c : Int) : ∀ n i, rlF s c n i = -1 → ∀ j : Nat, i ≤ j → j < i + n → ¬ (begB s j = true ∧ bt s j = c)
  | 0, i, h, j, h1, h2 => by omega
  | n + 1, i, h, j, h1, h2 => by
    unfold rlF at h
    by_cases hc : (begB s i && bt s i == c) = true
    · rw [if_pos hc] at h; omega
    · rw [if_neg hc] at h
      by_cases e : j = i
      · subst e; simpa using hc
      · exact rlF_none s c n (i + 1) h j (by omega) (by omega)

/-- the grammar's block while its rules are read -/
structure GI (w : World) (s : ByteArray) (gb k : Nat) : Prop where
  lt : gb < w.heap.size
  there : ∀ j, j < 26 → ∃ v, w.cell? ⟨gb, j, none⟩ = some v
  froz : ∀ j, j < 27 → w.frozen? ⟨gb, j, none⟩ = false
  start : w.cell? ⟨gb, 26, none⟩ = some (.int .u8 (bt s (0 : Nat)))
  nils : ∀ i : Nat, i < 26 → (∀ j : Nat, j < k → begB s j = true → bt s j ≠ (65 + i : Nat)) → w.cell? ⟨gb, i, none⟩ = some (.pointer none)
  rules : ∀ j : Nat, j < k → begB s j = true → ∃ p m, w.cell? ⟨gb, (bt s j - 65).toNat, none⟩ = some (.pointer (some ⟨p, 0, none⟩)) ∧ EA w s m (fun b => gb + 1 ≤ b ∧ b < w.heap.size) p (j + 2)

section
variable {w w1 : World} {s : ByteArray} {gb k : Nat}
theorem GI.below (h : GI w s gb k) (hb : Below w.heap.size w w1) : GI w1 s gb k := by
  have hc : ∀ j, w1.cell? ⟨gb, j, none⟩ = w.cell? ⟨gb, j, none⟩ := fun j => hb.cell (p := ⟨gb, j, none⟩) h.lt
  refine ⟨Nat.lt_of_lt_of_le h.lt hb.size, fun j hj => by rw [hc]; exact h.there j hj, fun j hj => (hb.frozen (p := ⟨gb, j, none⟩) h.lt).trans (h.froz j hj), by rw [hc]; exact h.start, fun i hi hh => by rw [hc]; exact h.nils i hi hh, fun j hj hbg => ?_⟩
  obtain ⟨p, m, h1, h2⟩ := h.rules j hj hbg
  exact ⟨p, m, by rw [hc]; exact h1, EA.frame (fun b hbb => hb.block b hbb.2) (fun b hbb => ⟨hbb.1, Nat.lt_of_lt_of_le hbb.2 hb.size⟩) m m _ _ (Nat.le_refl _) h2⟩
theorem GI.skip (h : GI w s gb k) (hb : begB s k = false) : GI w s gb (k + 1) := by
  refine ⟨h.lt, h.there, h.froz, h.start, fun i hi hh => h.nils i hi (fun j hj hbg => hh j (by omega) hbg), fun j hj hbg => ?_⟩
  by_cases e : j = k
  · subst e; rw [hb] at hbg; cases hbg
  · exact h.rules j (by omega) hbg
theorem GI.begin {t : TypeId} {cs : Array Value} (h1 : cs.size = 27) (h3 : ∀ i, i < 26 → cs[i]? = some (.pointer none)) (h2 : cs[26]? = some (.int .u8 (bt s (0 : Nat)))) : GI (w.alloc (.cells cs t)) s w.heap.size 0 := by
  refine ⟨by simp, fun j hj => ?_, fun j _ => by rw [World.frozen?_alloc_new], by rw [World.cell?_alloc_new]; exact h2, fun i hi _ => by rw [World.cell?_alloc_new]; exact h3 i hi, fun j hj => by omega⟩
  rw [World.cell?_alloc_new]
  exact ⟨_, Array.getElem?_eq_getElem (by omega)⟩
theorem GI.store (h : GI w s gb k) (G : Gram s) (hk : k < s.size) (hb : begB s k = true) {p m : Nat} (hE : EA w s m (fun b => gb + 1 ≤ b ∧ b < w.heap.size) p (k + 2)) :
    GI (w.setCell ⟨gb, (bt s k - 65).toNat, none⟩ (.pointer (some ⟨p, 0, none⟩))) s gb (k + 1) := by
  have hN := (G.rule k hk hb).1
  have hv : 65 ≤ bt s k ∧ bt s k ≤ 90 := by simpa [cN] using hN
  obtain ⟨u, hu⟩ := h.there (bt s k - 65).toNat (by omega)
  have hoth : ∀ j, j ≠ (bt s k - 65).toNat → (w.setCell ⟨gb, (bt s k - 65).toNat, none⟩ (.pointer (some ⟨p, 0, none⟩))).cell? ⟨gb, j, none⟩ = w.cell? ⟨gb, j, none⟩ := fun j hj =>
    World.cell?_setCell_other w _ _ _ (fun e => hj (by injection e with _ e2; exact e2.symm))
  have hfr : ∀ n q x, EA w s n (fun b => gb + 1 ≤ b ∧ b < w.heap.size) q x → EA (w.setCell ⟨gb, (bt s k - 65).toNat, none⟩ (.pointer (some ⟨p, 0, none⟩))) s n (fun b => gb + 1 ≤ b ∧ b < (w.setCell ⟨gb, (bt s k - 65).toNat, none⟩ (.pointer (some ⟨p, 0, none⟩))).heap.size) q x := fun n q x hh =>
    EA.frame (fun b hbb => Below.heap_setCell w _ _ b (by have := hbb.1; show b ≠ gb; omega)) (fun b hbb => ⟨hbb.1, by rw [World.size_setCell]; exact hbb.2⟩) n n q x (Nat.le_refl _) hh
  refine ⟨by rw [World.size_setCell]; exact h.lt, fun j hj => ?_, fun j hj => by rw [World.frozen?_setCell]; exact h.froz j hj, by rw [hoth 26 (by omega)]; exact h.start, fun i hi hh => ?_, fun j hj hbg => ?_⟩
  · by_cases e : j = (bt s k - 65).toNat
    · subst e; exact ⟨_, World.cell?_setCell_same w _ _ hu⟩
    · rw [hoth j e]; exact h.there j hj
  · rw [hoth i (fun e => hh k (by omega) hb (by omega))]
    exact h.nils i hi (fun j hj hbg => hh j (by omega) hbg)
  · by_cases e : j = k
    · subst e; exact ⟨p, m, World.cell?_setCell_same w _ _ hu, hfr m _ _ hE⟩
    · have hjl : j < s.size := by omega
      obtain ⟨p', m', h1, h2⟩ := h.rules j (by omega) hbg
      have hNj := (G.rule j hjl hbg).1
      have hvj : 65 ≤ bt s j ∧ bt s j ≤ 90 := by simpa [cN] using hNj
      have hne : bt s j ≠ bt s k := by
        intro e2
        have o1 := G.once j hjl hbg
        have o2 := G.once k hk hb
        rw [e2, o2] at o1; omega
      exact ⟨p', m', by rw [hoth _ (by omega)]; exact h1, hfr m' _ _ h2⟩
theorem GI.done (h : GI w s gb k) (G : Gram s) (hk : k = s.size) : Gr w s w.heap.size gb := by
  subst hk
  refine ⟨h.lt, h.start, fun f hf => ?_, fun i hi hr => h.nils i hi (fun j hj hbg e => rlF_none s _ s.size 0 hr j (by omega) (by omega) ⟨hbg, e⟩)⟩
  obtain ⟨j, h1, h2, h3, h4⟩ := G.name f hf
  obtain ⟨p, m, h5, h6⟩ := h.rules j h2 h3
  rw [h4] at h5
  exact ⟨p, m, j, h1, h2, h5, EA.frame (fun _ _ => rfl) (fun b hb => hb.2) m m _ _ (Nat.le_refl _) h6⟩
end
theorem nils27 (v : Value) (i : Nat) (hi : i < 26) : ((List.replicate 26 (Value.pointer none)) ++ [v]).toArray[i]? = some (.pointer none) := by
  rw [List.getElem?_toArray, List.getElem?_append_left (by simpa using hi), List.getElem?_replicate, if_pos hi]

set_option maxHeartbeats 1000000 in
set_option maxRecDepth 1000000 in
theorem read_gram (s : ByteArray) (G : Gram s) (w : World) :
    Calls Tryz.prog 60 #[.string s] w fun e w' => e = .returned (.pointer (some ⟨w.heap.size, 0, none⟩)) ∧ Gr w' s w'.heap.size w.heap.size ∧ Below w.heap.size w w' := by
  have hs := G.small
  have hpos := G.pos
  have hms : Hid (s.size ≤ maxLen) := hide (by unfold maxLen; omega)
  have HG := hide G
  clear G
  go_enter Tryz.func60, Tryz.ntmps60
  go_wp2
  go_loopw [4] (fun i wr => ∃ k : Nat, k ≤ s.size ∧ i = .int .i64 k ∧ GI wr s w.heap.size k ∧ Below w.heap.size w wr) (fun i _ => s.size - (intOf i).toNat)
  case atStart =>
    exact ⟨0, Nat.zero_le _, rfl, GI.begin rfl (nils27 (.int .u8 s[0].toNat)) (by rw [bt_at s 0 hpos]; rfl), (Below.refl _ _).alloc (Nat.le_refl _) _⟩
  case round =>
    obtain ⟨k, hk, rfl, hI, hB⟩ := hrel
    by_cases hlt : k < s.size
    · cases hb : begB s k
      · have HI := hide (hI.skip hb)
        have hb' := hide hb
        clear hb hI
        go_wp2_with (go_at_call 57; refine (begins_any _ _ _ (unhide hms) (by omega) (by omega)).mono ?_; rintro e w' ⟨rfl, hw⟩; replace hw := hw.symm; subst hw; rw [unhide hb'])
        go_roundw
        case rel => exact ⟨k + 1, by omega, by go_num, unhide HI, hB⟩
        case measure => simp [intOf]; omega
      · obtain ⟨hN, _, hk2, gn, hgood⟩ := (unhide HG).rule k hlt hb
        have hv : 65 ≤ bt s k ∧ bt s k ≤ 90 := by simpa [cN] using hN
        have hbk := bt_at s k hlt
        rw [hbk] at hv
        obtain ⟨hv1, hv2⟩ := hv
        have HBK := hide hbk
        have HI := hide hI
        have hb' := hide hb
        have HGD := hide hgood
        clear hb hI hN hbk hgood
        go_wp2_with (go_at_call 57; refine (begins_any _ _ _ (unhide hms) (by omega) (by omega)).mono ?_; rintro e w' ⟨rfl, hw⟩; replace hw := hw.symm; subst hw; rw [unhide hb'])
        refine (expr_every s hs gn _ (k + 2) 0 _ (by omega) (unhide HGD)).mono ?_
        rintro e w1 ⟨m1, rfl, hE1, hB1⟩
        have hI1 := (unhide HI).below hB1
        have hE2 : EA w1 s m1 (fun b => w.heap.size + 1 ≤ b ∧ b < w1.heap.size) wr.heap.size (k + 2) :=
          EA.frame (fun _ _ => rfl) (fun b hbb => ⟨by have := (unhide HI).lt; have := hbb.1; omega, hbb.2⟩) m1 m1 _ _ (Nat.le_refl _) hE1
        have HI2 := hide (hI1.store (unhide HG) hlt (unhide hb') hE2)
        have hix : (s[k].toNat : Int) - 65 < 26 := by omega
        have hix0 : 0 ≤ (s[k].toNat : Int) - 65 := by omega
        have hwr : IntKind.u8.wrap ((s[k].toNat : Int) - 65) = (s[k].toNat : Int) - 65 := by simp [IntKind.wrap, IntKind.signed, IntKind.bits]; omega
        obtain ⟨u, c0⟩ := hI1.there ((s[k].toNat : Int) - 65).toNat (by omega)
        have f0 := hI1.froz ((s[k].toNat : Int) - 65).toNat (by omega)
        have HB1 := hide (hB.trans (hB1.mono hB.size))
        have hge : w.heap.size ≤ w.heap.size := Nat.le_refl _
        clear hI1 hE1 hE2 hB1
        go_wp2
        go_region
        go_wp2
        go_roundw
        case rel =>
          have h := unhide HI2
          rw [unhide HBK, show ((s[k].toNat : Int) - 65).toNat = s[k].toNat - 65 by omega] at h
          exact ⟨k + 1, by omega, by go_num, h.below ((Below.refl _ _).drew), ((unhide HB1).setCell (p := ⟨w.heap.size, s[k].toNat - 65, none⟩) (Nat.le_refl _) _).drew⟩
        case measure => simp [intOf]; omega
    · have HD := hide (hI.done (unhide HG) (by omega))
      clear hI
      go_wp2
      go_ret
      exact ⟨rfl, unhide HD, hB⟩

theorem hgt_ref_none {s t : ByteArray} (h : (chk s).1 = 0) (hw : whole s t 0 = none) : hgt s t = (0, 7) := by unfold hgt; rw [if_neg (by simp [h]), hw]
theorem hgt_ref_some {s t : ByteArray} {n : Nat} (h : (chk s).1 = 0) (hw : whole s t 0 = some n) : hgt s t = ((n : Int), 0) := by unfold hgt; rw [if_neg (by simp [h]), hw]
theorem hgt_ref_bad {s t : ByteArray} (h : (chk s).1 ≠ 0) : hgt s t = (0, (chk s).1) := by unfold hgt; rw [if_pos h]
theorem start_name {s : ByteArray} (g : Gram s) : cN (bt s (0 : Nat)) = true := (g.rule 0 g.pos (by simp [begB])).1

set_option maxHeartbeats 1000000 in
set_option maxRecDepth 1000000 in
theorem refHeight_any (s t : ByteArray) (w : World) (hs : s.size ≤ maxLen) (hm : t.size ≤ maxLen) :
    Calls Tryz.prog 33 #[.string s, .string t] w fun e w' => e = .returned (.tuple #[.int .i64 (hgt s t).1, .int .i64 (hgt s t).2]) ∧ Below w.heap.size w w' := by
  by_cases h : (chk s).1 = 0
  · have h' : ((chk s).1 != 0) = false := by simp [h]
    have G := hide (gram_of h)
    cases hw : whole s t 0 with
    | none =>
      rw [hgt_ref_none h hw]
      have HW := hide hw
      clear h hw
      go_enter Tryz.func33, Tryz.ntmps33
      go_wp2_with fail
      refine (refCheck_any _ _ hs).mono ?_
      rintro e w1 ⟨rfl, hb1⟩
      go_wp2_with fail
      refine (read_gram _ (unhide G) _).mono ?_
      rintro e w2 ⟨rfl, hG2, hb2⟩
      go_wp2_with fail
      refine (rwhole_any 0 _ hG2 (Nat.le_refl _) (unhide G).small hm (start_name (unhide G))).mono ?_
      rw [unhide HW]
      rintro e w3 ⟨rfl, hb3⟩
      simp only [rw_]
      go_wp2
      go_ret2
      exact ⟨rfl, (hb1.trans (hb2.mono hb1.size)).trans (hb3.mono (Nat.le_trans hb1.size hb2.size))⟩
    | some n =>
      rw [hgt_ref_some h hw]
      have HW := hide hw
      clear h hw
      go_enter Tryz.func33, Tryz.ntmps33
      go_wp2_with fail
      refine (refCheck_any _ _ hs).mono ?_
      rintro e w1 ⟨rfl, hb1⟩
      go_wp2_with fail
      refine (read_gram _ (unhide G) _).mono ?_
      rintro e w2 ⟨rfl, hG2, hb2⟩
      go_wp2_with fail
      refine (rwhole_any 0 _ hG2 (Nat.le_refl _) (unhide G).small hm (start_name (unhide G))).mono ?_
      rw [unhide HW]
      rintro e w3 ⟨rfl, hb3⟩
      simp only [rw_]
      have hn0 : ¬ (n : Int) < 0 := by omega
      go_wp2
      go_ret2
      exact ⟨rfl, (hb1.trans (hb2.mono hb1.size)).trans (hb3.mono (Nat.le_trans hb1.size hb2.size))⟩
  · rw [hgt_ref_bad h]
    have h' : ((chk s).1 != 0) = true := by simp [h]
    clear h
    go_enter Tryz.func33, Tryz.ntmps33
    go_wp2_with fail
    refine (refCheck_any _ _ hs).mono ?_
    rintro e w1 ⟨rfl, hb1⟩
    go_wp2
    go_ret2
    exact ⟨rfl, hb1⟩
end Go.Proofs.YtnfaiaoipeholaaGreat
