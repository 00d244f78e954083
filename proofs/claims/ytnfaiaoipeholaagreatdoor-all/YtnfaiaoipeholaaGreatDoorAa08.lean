/- RTr RRead HeightsPlays LowMath FitMath -/
import Derived.Test.YtnfaiaoipeholaaGreatDoorAa07
import Derived.Test.YtnfaiaoipeholaaGreatDoorAa06
import Derived.Test.YtnfaiaoipeholaaGreatDoorAa03
import Derived.Test.YtnfaiaoipeholaaGreatDoorAa01
import Derived.Test.YtnfaiaoipeholaaGreatDoorAa05
import Derived.Test.YtnfaiaoipeholaaGreatDoorAa04
namespace Go.Proofs.YtnfaiaoipeholaaGreatDoor
open Go.RowKit
section
variable {s t : ByteArray} {B g : Nat} {most : Int}

set_option maxHeartbeats 1000000 in
set_option maxRecDepth 1000000 in
theorem rtree_step {n : Nat} (hn : n ≤ 2003) (hT : SaidT s t B g most n) : SaidT s t B g most (n + 1) := by
  intro q p x m i w v hE hq hi hin
  subst hq
  have hBr : SaidB s t B g most n := fun q p m f i w v hE hq hi hin hc => rbracket_any (by omega) hT q p m f i w v hE hq hi hin hc
  have ht := v.ht
  generalize hR : pE s t most (n + 1) x i = R
  unfold pE at hR
  by_cases hl : i < t.size
  case neg =>
    rw [if_neg (by rw [bt_out t i (by omega)]; decide)] at hR
    subst hR
    go_enter Tryz.func126, Tryz.ntmps126
    go_wp2
    go_ret2
    exact ⟨rfl, Below.refl _ _⟩
  have hb := bt_at t i hl
  have hbd := bt_bd t i
  rw [hb] at hR hbd
  clear hb
  cases hd : cD (t[i].toNat : Int)
  · rw [if_neg (by simp [hd])] at hR
    subst hR
    have hdc : (t[i].toNat : Int) < 48 ∨ (¬ (t[i].toNat : Int) < 48 ∧ 57 < (t[i].toNat : Int)) := by
      simp [cD] at hd; omega
    clear hd
    rcases hdc with h48 | ⟨h48, h57⟩
    all_goals
      go_enter Tryz.func126, Tryz.ntmps126
      go_wp2
      go_ret2
      exact ⟨rfl, Below.refl _ _⟩
  · rw [if_pos hd] at hR
    have hdv : 48 ≤ (t[i].toNat : Int) ∧ (t[i].toNat : Int) ≤ 57 := by simpa [cD] using hd
    obtain ⟨h48, h57⟩ := hdv
    clear hd
    obtain ⟨d, hdn⟩ : ∃ d : Nat, (t[i].toNat : Int) - 48 = (d : Int) := ⟨((t[i].toNat : Int) - 48).toNat, by omega⟩
    rw [show ((t[i].toNat : Int) - 48).toNat = d by omega] at hR
    cases m with
    | zero => exact hE.elim
    | succ m =>
    obtain ⟨hp, N, gv, cap, hN0, hN4, hcp, hgv, hNn, hall⟩ := id hE
    have HE := hide hE
    have HALL := hide hall
    have HNN := hide hNn
    clear hE hall hNn
    by_cases hdN : d < N
    case neg =>
      rw [ap_none (unhide HNN) d (by omega)] at hR
      subst hR
      have hge : (N : Int) ≤ (t[i].toNat : Int) - 48 := by omega
      clear hdn
      go_enter Tryz.func126, Tryz.ntmps126
      go_wp2
      go_ret2
      exact ⟨rfl, Below.refl _ _⟩
    obtain ⟨a, va, hap, hca, hA⟩ := unhide HALL d hdN
    rw [hap] at hR
    simp only at hR
    obtain ⟨ao, ca, rfl, hfac⟩ := hA
    have hlen := fe_len s a
    have hs := v.hs
    have HFAC := hide hfac
    have HR := hide hR
    clear hfac hR hap
    have hlt : (t[i].toNat : Int) - 48 < N := by omega
    go_enter Tryz.func126, Tryz.ntmps126
    go_wp2
    generalize hL : (fe s a).1 = L at *
    have hmem : ∀ f ∈ L, isF s f = true := fun f hf => (fe_mem (p := a) (by rw [hL]; exact hf)).1
    have HMEM := hide hmem
    clear hL hmem
    go_loopw [3, 13, 14] (fun iv tv jv wr => ∃ (k a1 top : Nat), iv = .int .i64 a1 ∧ tv = .int .i64 top ∧ jv = .int .i64 k ∧ k ≤ L.length ∧ i < a1 ∧ a1 ≤ t.size ∧ top ≤ n + 1 ∧ Below w.heap.size w wr ∧ Hid (R = pFs (pF s t most (pE s t most n)) (L.drop k) a1 top)) (fun _ _ jv _ => 400 - (intOf jv).toNat)
    case atStart => exact ⟨0, i + 1, 0, by go_num, rfl, rfl, by omega, by omega, by omega, by omega, Below.refl _ _, hide (unhide HR).symm⟩
    case round =>
      obtain ⟨k, a1, top, rfl, rfl, rfl, hk, hia, hat, htop, hb, hN⟩ := hrel
      have hpl : p < w.heap.size := Nat.lt_of_lt_of_le hp v.hB
      have hgl : gv < w.heap.size := Nat.lt_of_lt_of_le hgv v.hB
      have d0 := (hb.cell (p := ⟨p, 0, none⟩) hpl).trans hcp
      have d1 := (hb.cell (p := ⟨gv, d, none⟩) hgl).trans hca
      by_cases hkl : k < L.length
      · obtain ⟨ga, rfl, hga, hF⟩ := unhide HFAC k hkl
        have hfm := unhide HMEM (L.getD k 0) (by rw [List.getD_eq_getElem?_getD, List.getElem?_eq_getElem hkl]; simp)
        have hdrop : L.drop k = L.getD k 0 :: L.drop (k + 1) := by
          rw [List.drop_eq_getElem_cons hkl, List.getD_eq_getElem?_getD, List.getElem?_eq_getElem hkl]; rfl
        have hN2 := unhide hN
        rw [hdrop] at hN2
        clear hN hdrop
        generalize L.getD k 0 = fk at *
        have hgal : ga < w.heap.size := Nat.lt_of_lt_of_le hga v.hB
        obtain ⟨hF1, hF2⟩ := hF
        have e0 := (hb.cell (p := ⟨ga, k * 2, none⟩) hgal).trans hF1
        obtain ⟨sv, e1, hsub⟩ : ∃ sv, wr.cell? ⟨ga, k * 2 + 1, none⟩ = some sv ∧ SubOk wr s B fk sv := by
          rcases hF2 with ⟨q1, q2⟩ | ⟨q1, p', q2, q3⟩
          · exact ⟨_, (hb.cell (p := ⟨ga, k * 2 + 1, none⟩) hgal).trans q2, .inl ⟨q1, rfl⟩⟩
          · exact ⟨_, (hb.cell (p := ⟨ga, k * 2 + 1, none⟩) hgal).trans q2, .inr ⟨q1, p', m, rfl, q3.below hb v.hB⟩⟩
        have vw := hide (v.below hb)
        have HSUB := hide hsub
        have HFM := hide hfm
        clear hF1 hF2 hsub hfm
        cases hq : pF s t most (pE s t most n) fk a1 with
        | none =>
          have hN3 : R = none := by rw [hN2]; simp only [pFs, hq]
          have HN := hide hN3
          have HQ := hide hq
          clear hN2 hN3 hq
          go_wp2_with fail
          refine (rfactor_any (by omega) hT hBr _ sv fk a1 _ (unhide vw) (unhide HSUB) rfl (by omega) (by omega) (unhide HFM)).mono ?_
          rw [unhide HQ]
          rintro e w2 ⟨rfl, hb2⟩
          simp only [rr]
          go_wp2
          go_ret2
          exact ⟨by rw [unhide HN]; rfl, hb.trans (hb2.mono hb.size)⟩
        | some y =>
          obtain ⟨j1, h1⟩ := y
          have hN3 : R = pFs (pF s t most (pE s t most n)) (L.drop (k + 1)) j1 (max top h1) := by rw [hN2]; simp only [pFs, hq]
          have hfw := pF_fwd (most := most) (fun x i => pE_fwd s t most n x i) (unhide HFM) j1 h1 hq
          obtain ⟨hf1, hf2, hf3⟩ := hfw
          have HN := hide hN3
          have HQ := hide hq
          clear hN2 hN3 hq
          go_wp2_with fail
          refine (rfactor_any (by omega) hT hBr _ sv fk a1 _ (unhide vw) (unhide HSUB) rfl (by omega) (by omega) (unhide HFM)).mono ?_
          rw [unhide HQ]
          rintro e w2 ⟨rfl, hb2⟩
          simp only [rr]
          go_wp2_with (go_at_call 158; refine (higher_any _ _ _).mono ?_; rintro e w' ⟨rfl, hw⟩; subst hw)
          go_roundw
          case rel => exact ⟨k + 1, j1, max top h1, rfl, by go_num, by go_num, by omega, by omega, by omega, by omega, hb.trans (hb2.mono hb.size), hide (unhide HN)⟩
          case measure => simp [intOf]; omega
      · have hN2 := unhide hN
        rw [List.drop_eq_nil_of_le (by omega)] at hN2
        have HN := hide hN2
        clear hN hN2
        go_wp2
        go_ret2
        exact ⟨by rw [unhide HN]; simp only [pFs, rr]; rfl, hb⟩

theorem rtree_all : ∀ n, n ≤ 2004 → SaidT s t B g most n
  | 0, _ => by
    intro q p x m i w v hE hq hi hin
    subst hq
    have ht := v.ht
    go_enter Tryz.func126, Tryz.ntmps126
    go_wp2
    go_ret2
    exact ⟨rfl, Below.refl _ _⟩
  | n + 1, h => rtree_step (by omega) (rtree_all n (by omega))
end

/-- the height, or -1 -/
def rw_ (o : Option Nat) : Int := match o with
  | none => -1
  | some h => (h : Int)

set_option maxHeartbeats 400000 in
theorem rwhole_any {s t : ByteArray} {B g : Nat} (most : Int) (w : World) (gr : Gr w s B g) (hB : B ≤ w.heap.size) (hs : s.size ≤ 300) (hm : t.size ≤ maxLen) (hst : cN (bt s (0 : Nat)) = true) :
    Calls Tryz.prog 33 #[.pointer (some ⟨g, 0, none⟩), .string t, .int .i64 most] w fun e w' => e = .returned (.int .i64 (rw_ (whole s t most))) ∧ Below w.heap.size w w' := by
  unfold maxLen at hm
  generalize hR : whole s t most = R
  unfold whole at hR
  by_cases hl : 2000 < t.size
  · rw [if_pos hl] at hR
    subst hR
    go_enter Tryz.func33, Tryz.ntmps33
    go_wp2
    go_ret
    exact ⟨rfl, Below.refl _ _⟩
  · rw [if_neg hl] at hR
    have v : Wd w s t B g := ⟨gr, hB, hs, by omega⟩
    have c0 := gr.start
    have HST := hide hst
    have hfs : Hid (isF s 0 = true) := hide (by unfold isF; rw [hst]; simp)
    have hso : Hid (SubOk w s B 0 (.pointer none)) := hide (.inl ⟨by
      have hv : 65 ≤ bt s (0 : Nat) ∧ bt s (0 : Nat) ≤ 90 := by simpa [cN] using hst
      cases e : cO (bt s (0 : Nat))
      · rfl
      · have := cO_vals e; omega, rfl⟩)
    have hT : SaidT s t B g most (t.size + 1) := rtree_all _ (by omega)
    have hBr : SaidB s t B g most (t.size + 1) := fun q p m f i w v hE hq hi hin hc => rbracket_any (by omega) hT q p m f i w v hE hq hi hin hc
    have V := hide v
    clear hst v gr
    cases hq : pF s t most (pE s t most (t.size + 1)) 0 0 with
    | none =>
      rw [hq] at hR
      simp only at hR
      subst hR
      have HQ := hide hq; clear hq
      have hne : ((-1 : Int) != (t.size : Int)) = true := by simp only [bne_iff_ne]; omega
      go_enter Tryz.func33, Tryz.ntmps33
      go_wp2_with fail
      refine (rfactor_any (by omega) hT hBr _ _ 0 0 _ (unhide V) (unhide hso) rfl (by omega) (by omega) (unhide hfs)).mono ?_
      rw [unhide HQ]
      rintro e w2 ⟨rfl, hb2⟩
      simp only [rr]
      go_wp2
      go_ret
      exact ⟨rfl, hb2⟩
    | some y =>
      obtain ⟨j1, h1⟩ := y
      rw [hq] at hR
      simp only at hR
      have HQ := hide hq; clear hq
      by_cases he : j1 = t.size
      · rw [if_pos he] at hR
        subst hR
        have hne : ((j1 : Int) != (t.size : Int)) = false := by simp [he]
        clear he
        go_enter Tryz.func33, Tryz.ntmps33
        go_wp2_with fail
        refine (rfactor_any (by omega) hT hBr _ _ 0 0 _ (unhide V) (unhide hso) rfl (by omega) (by omega) (unhide hfs)).mono ?_
        rw [unhide HQ]
        rintro e w2 ⟨rfl, hb2⟩
        simp only [rr]
        go_wp2
        go_ret
        exact ⟨rfl, hb2⟩
      · rw [if_neg he] at hR
        subst hR
        have hne : ((j1 : Int) != (t.size : Int)) = true := by simp only [bne_iff_ne]; omega
        clear he
        go_enter Tryz.func33, Tryz.ntmps33
        go_wp2_with fail
        refine (rfactor_any (by omega) hT hBr _ _ 0 0 _ (unhide V) (unhide hso) rfl (by omega) (by omega) (unhide hfs)).mono ?_
        rw [unhide HQ]
        rintro e w2 ⟨rfl, hb2⟩
        simp only [rr]
        go_wp2
        go_ret
        exact ⟨rfl, hb2⟩
end Go.Proofs.YtnfaiaoipeholaaGreatDoor

namespace Go.Proofs.YtnfaiaoipeholaaGreatDoor
open Go.RowKit

theorem expr_every (s : ByteArray) (hs : s.size ≤ 300) (n : Nat) : SaidX s n := by
  induction n using Nat.strongRecOn with
  | _ n ih => exact expr_any s hs n ih

theorem rlF_none (s : ByteArray) (c : Int) : ∀ n i, rlF s c n i = -1 → ∀ j : Nat, i ≤ j → j < i + n → ¬ (begB s j = true ∧ bt s j = c)
  | 0, i, h, j, h1, h2 => by omega
  | n + 1, i, h, j, h1, h2 => by
    unfold rlF at h
    by_cases hc : (begB s i && bt s i == c) = true
    · rw [if_pos hc] at h; omega
    · rw [if_neg hc] at h
      by_cases e : j = i
      · subst e; simpa using hc
      · exact rlF_none s c n (i + 1) h j (by omega) (by omega)

/-- the grammar's block while its rules are read -/
structure GI (w : World) (s : ByteArray) (gb k : Nat) : Prop where
  lt : gb < w.heap.size
  there : ∀ j, j < 26 → ∃ v, w.cell? ⟨gb, j, none⟩ = some v
  froz : ∀ j, j < 27 → w.frozen? ⟨gb, j, none⟩ = false
  start : w.cell? ⟨gb, 26, none⟩ = some (.int .u8 (bt s (0 : Nat)))
  nils : ∀ i : Nat, i < 26 → (∀ j : Nat, j < k → begB s j = true → bt s j ≠ (65 + i : Nat)) → w.cell? ⟨gb, i, none⟩ = some (.pointer none)
  rules : ∀ j : Nat, j < k → begB s j = true → ∃ p m, w.cell? ⟨gb, (bt s j - 65).toNat, none⟩ = some (.pointer (some ⟨p, 0, none⟩)) ∧ EA w s m (fun b => gb + 1 ≤ b ∧ b < w.heap.size) p (j + 2)

section
variable {w w1 : World} {s : ByteArray} {gb k : Nat}
theorem GI.below (h : GI w s gb k) (hb : Below w.heap.size w w1) : GI w1 s gb k := by
  have hc : ∀ j, w1.cell? ⟨gb, j, none⟩ = w.cell? ⟨gb, j, none⟩ := fun j => hb.cell (p := ⟨gb, j, none⟩) h.lt
  refine ⟨Nat.lt_of_lt_of_le h.lt hb.size, fun j hj => by rw [hc]; exact h.there j hj, fun j hj => (hb.frozen (p := ⟨gb, j, none⟩) h.lt).trans (h.froz j hj), by rw [hc]; exact h.start, fun i hi hh => by rw [hc]; exact h.nils i hi hh, fun j hj hbg => ?_⟩
  obtain ⟨p, m, h1, h2⟩ := h.rules j hj hbg
  exact ⟨p, m, by rw [hc]; exact h1, EA.frame (fun b hbb => hb.block b hbb.2) (fun b hbb => ⟨hbb.1, Nat.lt_of_lt_of_le hbb.2 hb.size⟩) m m _ _ (Nat.le_refl _) h2⟩
theorem GI.skip (h : GI w s gb k) (hb : begB s k = false) : GI w s gb (k + 1) := by
  refine ⟨h.lt, h.there, h.froz, h.start, fun i hi hh => h.nils i hi (fun j hj hbg => hh j (by omega) hbg), fun j hj hbg => ?_⟩
  by_cases e : j = k
  · subst e; rw [hb] at hbg; cases hbg
  · exact h.rules j (by omega) hbg
theorem GI.begin {t : TypeId} {cs : Array Value} (h1 : cs.size = 27) (h3 : ∀ i, i < 26 → cs[i]? = some (.pointer none)) (h2 : cs[26]? = some (.int .u8 (bt s (0 : Nat)))) : GI (w.alloc (.cells cs t)) s w.heap.size 0 := by
  refine ⟨by simp, fun j hj => ?_, fun j _ => by rw [World.frozen?_alloc_new], by rw [World.cell?_alloc_new]; exact h2, fun i hi _ => by rw [World.cell?_alloc_new]; exact h3 i hi, fun j hj => by omega⟩
  rw [World.cell?_alloc_new]
  exact ⟨_, Array.getElem?_eq_getElem (by omega)⟩
theorem GI.store (h : GI w s gb k) (G : Gram s) (hk : k < s.size) (hb : begB s k = true) {p m : Nat} (hE : EA w s m (fun b => gb + 1 ≤ b ∧ b < w.heap.size) p (k + 2)) :
    GI (w.setCell ⟨gb, (bt s k - 65).toNat, none⟩ (.pointer (some ⟨p, 0, none⟩))) s gb (k + 1) := by
  have hN := (G.rule k hk hb).1
  have hv : 65 ≤ bt s k ∧ bt s k ≤ 90 := by simpa [cN] using hN
  obtain ⟨u, hu⟩ := h.there (bt s k - 65).toNat (by omega)
  have hoth : ∀ j, j ≠ (bt s k - 65).toNat → (w.setCell ⟨gb, (bt s k - 65).toNat, none⟩ (.pointer (some ⟨p, 0, none⟩))).cell? ⟨gb, j, none⟩ = w.cell? ⟨gb, j, none⟩ := fun j hj =>
    World.cell?_setCell_other w _ _ _ (fun e => hj (by injection e with _ e2; exact e2.symm))
  have hfr : ∀ n q x, EA w s n (fun b => gb + 1 ≤ b ∧ b < w.heap.size) q x → EA (w.setCell ⟨gb, (bt s k - 65).toNat, none⟩ (.pointer (some ⟨p, 0, none⟩))) s n (fun b => gb + 1 ≤ b ∧ b < (w.setCell ⟨gb, (bt s k - 65).toNat, none⟩ (.pointer (some ⟨p, 0, none⟩))).heap.size) q x := fun n q x hh =>
    EA.frame (fun b hbb => Below.heap_setCell w _ _ b (by have := hbb.1; show b ≠ gb; omega)) (fun b hbb => ⟨hbb.1, by rw [World.size_setCell]; exact hbb.2⟩) n n q x (Nat.le_refl _) hh
  refine ⟨by rw [World.size_setCell]; exact h.lt, fun j hj => ?_, fun j hj => by rw [World.frozen?_setCell]; exact h.froz j hj, by rw [hoth 26 (by omega)]; exact h.start, fun i hi hh => ?_, fun j hj hbg => ?_⟩
  · by_cases e : j = (bt s k - 65).toNat
    · subst e; exact ⟨_, World.cell?_setCell_same w _ _ hu⟩
    · rw [hoth j e]; exact h.there j hj
  · rw [hoth i (fun e => hh k (by omega) hb (by omega))]
    exact h.nils i hi (fun j hj hbg => hh j (by omega) hbg)
  · by_cases e : j = k
    · subst e; exact ⟨p, m, World.cell?_setCell_same w _ _ hu, hfr m _ _ hE⟩
    · have hjl : j < s.size := by omega
      obtain ⟨p', m', h1, h2⟩ := h.rules j (by omega) hbg
      have hNj := (G.rule j hjl hbg).1
      have hvj : 65 ≤ bt s j ∧ bt s j ≤ 90 := by simpa [cN] using hNj
      have hne : bt s j ≠ bt s k := by
        intro e2
        have o1 := G.once j hjl hbg
        have o2 := G.once k hk hb
        rw [e2, o2] at o1; omega
      exact ⟨p', m', by rw [hoth _ (by omega)]; exact h1, hfr m' _ _ h2⟩
theorem GI.done (h : GI w s gb k) (G : Gram s) (hk : k = s.size) : Gr w s w.heap.size gb := by
  subst hk
  refine ⟨h.lt, h.start, fun f hf => ?_, fun i hi hr => h.nils i hi (fun j hj hbg e => rlF_none s _ s.size 0 hr j (by omega) (by omega) ⟨hbg, e⟩)⟩
  obtain ⟨j, h1, h2, h3, h4⟩ := G.name f hf
  obtain ⟨p, m, h5, h6⟩ := h.rules j h2 h3
  rw [h4] at h5
  exact ⟨p, m, j, h1, h2, h5, EA.frame (fun _ _ => rfl) (fun b hb => hb.2) m m _ _ (Nat.le_refl _) h6⟩
end
theorem nils27 (v : Value) (i : Nat) (hi : i < 26) : ((List.replicate 26 (Value.pointer none)) ++ [v]).toArray[i]? = some (.pointer none) := by
  rw [List.getElem?_toArray, List.getElem?_append_left (by simpa using hi), List.getElem?_replicate, if_pos hi]

set_option maxHeartbeats 1000000 in
set_option maxRecDepth 1000000 in
theorem read_gram (s : ByteArray) (G : Gram s) (w : World) :
    Calls Tryz.prog 32 #[.string s] w fun e w' => e = .returned (.pointer (some ⟨w.heap.size, 0, none⟩)) ∧ Gr w' s w'.heap.size w.heap.size ∧ Below w.heap.size w w' := by
  have hs := G.small
  have hpos := G.pos
  have hms : Hid (s.size ≤ maxLen) := hide (by unfold maxLen; omega)
  have HG := hide G
  clear G
  go_enter Tryz.func32, Tryz.ntmps32
  go_wp2
  go_loopw [4] (fun i wr => ∃ k : Nat, k ≤ s.size ∧ i = .int .i64 k ∧ GI wr s w.heap.size k ∧ Below w.heap.size w wr) (fun i _ => s.size - (intOf i).toNat)
  case atStart =>
    exact ⟨0, Nat.zero_le _, rfl, GI.begin rfl (nils27 (.int .u8 s[0].toNat)) (by rw [bt_at s 0 hpos]; rfl), (Below.refl _ _).alloc (Nat.le_refl _) _⟩
  case round =>
    obtain ⟨k, hk, rfl, hI, hB⟩ := hrel
    by_cases hlt : k < s.size
    · cases hb : begB s k
      · have HI := hide (hI.skip hb)
        have hb' := hide hb
        clear hb hI
        go_wp2_with (go_at_call 29; refine (begins_any _ _ _ (unhide hms) (by omega) (by omega)).mono ?_; rintro e w' ⟨rfl, hw⟩; replace hw := hw.symm; subst hw; rw [unhide hb'])
        go_roundw
        case rel => exact ⟨k + 1, by omega, by go_num, unhide HI, hB⟩
        case measure => simp [intOf]; omega
      · obtain ⟨hN, _, hk2, gn, hgood⟩ := (unhide HG).rule k hlt hb
        have hv : 65 ≤ bt s k ∧ bt s k ≤ 90 := by simpa [cN] using hN
        have hbk := bt_at s k hlt
        rw [hbk] at hv
        obtain ⟨hv1, hv2⟩ := hv
        have HBK := hide hbk
        have HI := hide hI
        have hb' := hide hb
        have HGD := hide hgood
        clear hb hI hN hbk hgood
        go_wp2_with (go_at_call 29; refine (begins_any _ _ _ (unhide hms) (by omega) (by omega)).mono ?_; rintro e w' ⟨rfl, hw⟩; replace hw := hw.symm; subst hw; rw [unhide hb'])
        refine (expr_every s hs gn _ (k + 2) 0 _ (by omega) (unhide HGD)).mono ?_
        rintro e w1 ⟨m1, rfl, hE1, hB1⟩
        have hI1 := (unhide HI).below hB1
        have hE2 : EA w1 s m1 (fun b => w.heap.size + 1 ≤ b ∧ b < w1.heap.size) wr.heap.size (k + 2) :=
          EA.frame (fun _ _ => rfl) (fun b hbb => ⟨by have := (unhide HI).lt; have := hbb.1; omega, hbb.2⟩) m1 m1 _ _ (Nat.le_refl _) hE1
        have HI2 := hide (hI1.store (unhide HG) hlt (unhide hb') hE2)
        have hix : (s[k].toNat : Int) - 65 < 26 := by omega
        have hix0 : 0 ≤ (s[k].toNat : Int) - 65 := by omega
        have hwr : IntKind.u8.wrap ((s[k].toNat : Int) - 65) = (s[k].toNat : Int) - 65 := by simp [IntKind.wrap, IntKind.signed, IntKind.bits]; omega
        obtain ⟨u, c0⟩ := hI1.there ((s[k].toNat : Int) - 65).toNat (by omega)
        have f0 := hI1.froz ((s[k].toNat : Int) - 65).toNat (by omega)
        have HB1 := hide (hB.trans (hB1.mono hB.size))
        have hge : w.heap.size ≤ w.heap.size := Nat.le_refl _
        clear hI1 hE1 hE2 hB1
        go_wp2
        go_region
        go_wp2
        go_roundw
        case rel =>
          have h := unhide HI2
          rw [unhide HBK, show ((s[k].toNat : Int) - 65).toNat = s[k].toNat - 65 by omega] at h
          exact ⟨k + 1, by omega, by go_num, h.below ((Below.refl _ _).drew), ((unhide HB1).setCell (p := ⟨w.heap.size, s[k].toNat - 65, none⟩) (Nat.le_refl _) _).drew⟩
        case measure => simp [intOf]; omega
    · have HD := hide (hI.done (unhide HG) (by omega))
      clear hI
      go_wp2
      go_ret
      exact ⟨rfl, unhide HD, hB⟩

theorem hgt_ref_none {s t : ByteArray} (h : (chk s).1 = 0) (hw : whole s t 0 = none) : hgt s t = (0, 7) := by unfold hgt; rw [if_neg (by simp [h]), hw]
theorem hgt_ref_some {s t : ByteArray} {n : Nat} (h : (chk s).1 = 0) (hw : whole s t 0 = some n) : hgt s t = ((n : Int), 0) := by unfold hgt; rw [if_neg (by simp [h]), hw]
theorem hgt_ref_bad {s t : ByteArray} (h : (chk s).1 ≠ 0) : hgt s t = (0, (chk s).1) := by unfold hgt; rw [if_pos h]
theorem start_name {s : ByteArray} (g : Gram s) : cN (bt s (0 : Nat)) = true := (g.rule 0 g.pos (by simp [begB])).1

set_option maxHeartbeats 1000000 in
set_option maxRecDepth 1000000 in
theorem refHeight_any (s t : ByteArray) (w : World) (hs : s.size ≤ maxLen) (hm : t.size ≤ maxLen) :
    Calls Tryz.prog 16 #[.string s, .string t] w fun e w' => e = .returned (.tuple #[.int .i64 (hgt s t).1, .int .i64 (hgt s t).2]) ∧ Below w.heap.size w w' := by
  by_cases h : (chk s).1 = 0
  · have h' : ((chk s).1 != 0) = false := by simp [h]
    have G := hide (gram_of h)
    cases hw : whole s t 0 with
    | none =>
      rw [hgt_ref_none h hw]
      have HW := hide hw
      clear h hw
      go_enter Tryz.func16, Tryz.ntmps16
      go_wp2_with fail
      refine (refCheck_any _ _ hs).mono ?_
      rintro e w1 ⟨rfl, hb1⟩
      go_wp2_with fail
      refine (read_gram _ (unhide G) _).mono ?_
      rintro e w2 ⟨rfl, hG2, hb2⟩
      go_wp2_with fail
      refine (rwhole_any 0 _ hG2 (Nat.le_refl _) (unhide G).small hm (start_name (unhide G))).mono ?_
      rw [unhide HW]
      rintro e w3 ⟨rfl, hb3⟩
      simp only [rw_]
      go_wp2
      go_ret2
      exact ⟨rfl, (hb1.trans (hb2.mono hb1.size)).trans (hb3.mono (Nat.le_trans hb1.size hb2.size))⟩
    | some n =>
      rw [hgt_ref_some h hw]
      have HW := hide hw
      clear h hw
      go_enter Tryz.func16, Tryz.ntmps16
      go_wp2_with fail
      refine (refCheck_any _ _ hs).mono ?_
      rintro e w1 ⟨rfl, hb1⟩
      go_wp2_with fail
      refine (read_gram _ (unhide G) _).mono ?_
      rintro e w2 ⟨rfl, hG2, hb2⟩
      go_wp2_with fail
      refine (rwhole_any 0 _ hG2 (Nat.le_refl _) (unhide G).small hm (start_name (unhide G))).mono ?_
      rw [unhide HW]
      rintro e w3 ⟨rfl, hb3⟩
      simp only [rw_]
      have hn0 : ¬ (n : Int) < 0 := by omega
      go_wp2
      go_ret2
      exact ⟨rfl, (hb1.trans (hb2.mono hb1.size)).trans (hb3.mono (Nat.le_trans hb1.size hb2.size))⟩
  · rw [hgt_ref_bad h]
    have h' : ((chk s).1 != 0) = true := by simp [h]
    clear h
    go_enter Tryz.func16, Tryz.ntmps16
    go_wp2_with fail
    refine (refCheck_any _ _ hs).mono ?_
    rintro e w1 ⟨rfl, hb1⟩
    go_wp2
    go_ret2
    exact ⟨rfl, hb1⟩
end Go.Proofs.YtnfaiaoipeholaaGreatDoor

namespace Go.Proofs.YtnfaiaoipeholaaGreatDoor
open Go.RowKit

set_option maxHeartbeats 400000 in
theorem numH_any (x : Int) (w : World) : Calls Tryz.prog 15 #[.int .i64 x] w fun e w' => e = .returned (.int .i64 x) ∧ w' = w := by
  go_enter Tryz.func15, Tryz.ntmps15
  go_wp2
  go_ret; exact ⟨rfl, rfl⟩

set_option maxHeartbeats 400000 in
set_option maxRecDepth 1000000 in
theorem plays_height (n m : Int) (s t u : ByteArray) (w : World) (hs : s.size ≤ maxLen) (ht : t.size ≤ maxLen) :
    Calls Tryz.prog 6 #[.agg #[.int .i64 2, .int .i64 n, .int .i64 m, .string s, .string t, .string u]] w fun e w' => e = .returned (.bool true) ∧ Below w.heap.size w w' := by
  go_enter Tryz.func6, Tryz.ntmps6
  go_wp2_with fail
  refine (height_any _ hs ht).mono ?_
  rintro e w1 ⟨rfl, hb1⟩
  obtain ⟨hc1, _⟩ := bcell' hb1
  have hz := hb1.size
  simp at hz
  go_wp2_with fail
  refine (refHeight_any _ _ _ hs ht).mono ?_
  rintro e w2 ⟨rfl, hb2⟩
  go_wp2_with (go_at_call 15; refine (numH_any _ _).mono ?_; rintro e w' ⟨rfl, hw⟩; subst hw)
  go_ret
  refine ⟨rfl, ?_⟩
  exact (((Below.refl _ _).alloc (Nat.le_refl _) _).trans (hb1.mono (by simp))).trans (hb2.mono (by omega))

theorem head_height : hgt ⟨#[83, 61, 123, 97, 124, 66, 125, 91, 99, 93, 59, 66, 61, 60, 98, 62, 59]⟩ ⟨#[83, 40, 48, 123, 48, 97, 44, 49, 66, 40, 48, 60, 48, 98, 44, 48, 98, 62, 41, 125, 91, 48, 99, 93, 41]⟩ = (2, 0) := by decide +kernel

set_option maxHeartbeats 400000 in
set_option maxRecDepth 1000000 in
theorem heads_height (w : World) : Calls Tryz.prog 4 #[.int .i64 2] w fun e w' => e = .returned (.bool true) ∧ Below w.heap.size w w' := by
  have hsz : (⟨#[83, 61, 123, 97, 124, 66, 125, 91, 99, 93, 59, 66, 61, 60, 98, 62, 59]⟩ : ByteArray).size ≤ maxLen := by decide +kernel
  have htz : (⟨#[83, 40, 48, 123, 48, 97, 44, 49, 66, 40, 48, 60, 48, 98, 44, 48, 98, 62, 41, 125, 91, 48, 99, 93, 41]⟩ : ByteArray).size ≤ maxLen := by decide +kernel
  have hh := hide head_height
  go_enter Tryz.func4, Tryz.ntmps4
  go_wp2_with fail
  refine (height_any _ hsz htz).mono ?_
  rw [unhide hh]
  rintro e w1 ⟨rfl, hb1⟩
  go_wp2
  go_ret
  exact ⟨rfl, hb1⟩
end Go.Proofs.YtnfaiaoipeholaaGreatDoor

namespace Go.Proofs.YtnfaiaoipeholaaGreatDoor

/-- where the alternatives of an expression begin -/
def stF (s : ByteArray) : Nat → Nat → List Nat
  | 0, x => [x]
  | n + 1, x => x :: (if bt s (fe s x).2 = 124 then stF s n ((fe s x).2 + 1) else [])
def sts (s : ByteArray) (x : Nat) : List Nat := stF s (s.size - x) x
theorem stF_ap (s : ByteArray) : ∀ n x k, s.size - x ≤ n → ap s k x = (stF s n x)[k]?
  | 0, x, 0, h => rfl
  | 0, x, k + 1, h => by
    have h2 := fe_bd s x
    have h1 : ¬ bt s (fe s x).2 = 124 := fun e => by have := bt_lt (s := s) (p := (fe s x).2) (by omega); omega
    simp [ap, stF, h1]
  | n + 1, x, 0, h => rfl
  | n + 1, x, k + 1, h => by
    unfold ap stF
    by_cases e : bt s (fe s x).2 = 124
    · have h3 := bt_lt (s := s) (p := (fe s x).2) (by omega)
      have h4 := fe_bd s x
      rw [if_pos e, if_pos e, stF_ap s n _ k (by omega)]; simp
    · rw [if_neg e, if_neg e]; simp
theorem sts_ap (s : ByteArray) (x k : Nat) : ap s k x = (sts s x)[k]? := stF_ap s _ x k (Nat.le_refl _)
theorem sts_bd {s : ByteArray} {x a : Nat} (h : a ∈ sts s x) : x ≤ a ∧ (a ≤ s.size ∨ a = x) := by
  obtain ⟨k, hk⟩ := List.getElem?_of_mem h
  rw [← sts_ap] at hk
  exact ap_bd hk

/-- a factor's least height, where those of the names and of what stands in brackets are known -/
def facH (s : ByteArray) (nm : Nat → Int) (rec : Nat → Int) (f : Nat) : Int :=
  if cN (bt s f) = true then nm (bt s f - 65).toNat + 1 else if bt s f = 40 ∨ bt s f = 60 then rec (f + 1) else 0
/-- an alternative's -/
def topH (s : ByteArray) (nm : Nat → Int) (rec : Nat → Int) (L : List Nat) (top : Int) : Int := L.foldl (fun t f => max t (facH s nm rec f)) top
def altH (s : ByteArray) (nm : Nat → Int) (rec : Nat → Int) (L : List Nat) : Int := if 99 < topH s nm rec L 0 then 99 else topH s nm rec L 0
/-- the least of alternatives -/
def minH (s : ByteArray) (nm : Nat → Int) (rec : Nat → Int) (l : List Nat) (best : Int) : Int := l.foldl (fun b a => if altH s nm rec (fe s a).1 < b then altH s nm rec (fe s a).1 else b) best
/-- an expression's -/
def lowF (s : ByteArray) (nm : Nat → Int) : Nat → Nat → Int
  | 0, _ => 99
  | n + 1, x => minH s nm (lowF s nm n) (sts s x) 99
theorem topH_congr {s : ByteArray} {nm : Nat → Int} {r r' : Nat → Int} : ∀ (L : List Nat) (top : Int), (∀ f ∈ L, r (f + 1) = r' (f + 1)) → topH s nm r L top = topH s nm r' L top
  | [], top, h => rfl
  | f :: L, top, h => by
    have e : facH s nm r f = facH s nm r' f := by unfold facH; rw [h f (by simp)]
    show topH s nm r L (max top (facH s nm r f)) = topH s nm r' L (max top (facH s nm r' f))
    rw [e, topH_congr L _ (fun f' hf => h f' (by simp [hf]))]
theorem altH_congr {s : ByteArray} {nm : Nat → Int} {r r' : Nat → Int} {L : List Nat} (h : ∀ f ∈ L, r (f + 1) = r' (f + 1)) : altH s nm r L = altH s nm r' L := by
  unfold altH; rw [topH_congr L 0 h]
theorem minH_congr {s : ByteArray} {nm : Nat → Int} {r r' : Nat → Int} : ∀ (l : List Nat) (best : Int), (∀ a ∈ l, ∀ f ∈ (fe s a).1, r (f + 1) = r' (f + 1)) → minH s nm r l best = minH s nm r' l best
  | [], best, h => rfl
  | a :: l, best, h => by
    have e := altH_congr (s := s) (nm := nm) (h a (by simp))
    show minH s nm r l (if altH s nm r (fe s a).1 < best then altH s nm r (fe s a).1 else best) = minH s nm r' l (if altH s nm r' (fe s a).1 < best then altH s nm r' (fe s a).1 else best)
    rw [e, minH_congr l _ (fun a' ha => h a' (by simp [ha]))]
theorem lowF_eq (s : ByteArray) (nm : Nat → Int) : ∀ n m x, s.size + 1 - x ≤ n → s.size + 1 - x ≤ m → x ≤ s.size → lowF s nm n x = lowF s nm m x
  | 0, m, x, h1, h2, h3 => by omega
  | n + 1, 0, x, h1, h2, h3 => by omega
  | n + 1, m + 1, x, h1, h2, h3 => by
    unfold lowF
    refine minH_congr _ _ (fun a ha f hf => ?_)
    have hb := sts_bd ha
    have hf' := fe_mem hf
    have hl := isF_lt hf'.1
    exact lowF_eq s nm n m (f + 1) (by omega) (by omega) (by omega)
def low (s : ByteArray) (nm : Nat → Int) (x : Nat) : Int := lowF s nm (s.size + 1) x
theorem low_step {s : ByteArray} {nm : Nat → Int} {x : Nat} : low s nm x = minH s nm (low s nm) (sts s x) 99 := by
  show minH s nm (lowF s nm s.size) (sts s x) 99 = _
  refine minH_congr _ _ (fun a ha f hf => ?_)
  have hb := sts_bd ha
  have hf' := fe_mem hf
  have hl := isF_lt hf'.1
  exact lowF_eq s nm s.size (s.size + 1) (f + 1) (by omega) (by omega) (by omega)
/-- the heights of names are such as are reckoned -/
def Nms (nm : Nat → Int) : Prop := ∀ i, 0 ≤ nm i ∧ nm i ≤ 99
theorem facH_bd {s : ByteArray} {nm rec : Nat → Int} (h : Nms nm) (hr : ∀ x, 0 ≤ rec x ∧ rec x ≤ 99) (f : Nat) : 0 ≤ facH s nm rec f ∧ facH s nm rec f ≤ 100 := by
  unfold facH; split
  · have := h (bt s f - 65).toNat; omega
  split
  · have := hr (f + 1); omega
  · omega
theorem topH_bd {s : ByteArray} {nm rec : Nat → Int} (h : Nms nm) (hr : ∀ x, 0 ≤ rec x ∧ rec x ≤ 99) : ∀ (L : List Nat) (top : Int), 0 ≤ top → top ≤ 100 → 0 ≤ topH s nm rec L top ∧ topH s nm rec L top ≤ 100
  | [], top, h1, h2 => ⟨h1, h2⟩
  | f :: L, top, h1, h2 => by
    have := facH_bd (s := s) h hr f
    exact topH_bd h hr L (max top (facH s nm rec f)) (by omega) (by omega)
theorem altH_bd {s : ByteArray} {nm rec : Nat → Int} (h : Nms nm) (hr : ∀ x, 0 ≤ rec x ∧ rec x ≤ 99) (L : List Nat) : 0 ≤ altH s nm rec L ∧ altH s nm rec L ≤ 99 := by
  have := topH_bd (s := s) h hr L 0 (by omega) (by omega)
  unfold altH; split <;> omega
theorem minH_bd {s : ByteArray} {nm rec : Nat → Int} (h : Nms nm) (hr : ∀ x, 0 ≤ rec x ∧ rec x ≤ 99) : ∀ (l : List Nat) (best : Int), 0 ≤ best → best ≤ 99 → 0 ≤ minH s nm rec l best ∧ minH s nm rec l best ≤ 99
  | [], b, h1, h2 => ⟨h1, h2⟩
  | a :: l, b, h1, h2 => by
    have := altH_bd (s := s) h hr (fe s a).1
    refine minH_bd h hr l (if altH s nm rec (fe s a).1 < b then altH s nm rec (fe s a).1 else b) ?_ ?_ <;> split <;> omega
theorem lowF_bd {s : ByteArray} {nm : Nat → Int} (h : Nms nm) : ∀ n x, 0 ≤ lowF s nm n x ∧ lowF s nm n x ≤ 99
  | 0, x => by simp [lowF]
  | n + 1, x => minH_bd h (lowF_bd h n) _ _ (by omega) (by omega)
theorem low_bd {s : ByteArray} {nm : Nat → Int} (h : Nms nm) (x : Nat) : 0 ≤ low s nm x ∧ low s nm x ≤ 99 := lowF_bd h _ x
end Go.Proofs.YtnfaiaoipeholaaGreatDoor

namespace Go.Proofs.YtnfaiaoipeholaaGreatDoor

/-- does a factor fit, where it is known which names do, and which expressions -/
def facFit (s : ByteArray) (N rec : Nat → Bool) (f : Nat) : Bool :=
  if cN (bt s f) = true then N (bt s f - 65).toNat else if bt s f = 40 ∨ bt s f = 60 then rec (f + 1) else true
def altFit (s : ByteArray) (N rec : Nat → Bool) (L : List Nat) : Bool := L.all (facFit s N rec)
def expF (s : ByteArray) (N : Nat → Bool) : Nat → Nat → Bool
  | 0, _ => false
  | n + 1, x => (sts s x).any fun a => altFit s N (expF s N n) (fe s a).1
def expFit (s : ByteArray) (N : Nat → Bool) (x : Nat) : Bool := expF s N (s.size + 1) x
theorem altFit_congr {s : ByteArray} {N r r' : Nat → Bool} {L : List Nat} (h : ∀ f ∈ L, r (f + 1) = r' (f + 1)) : altFit s N r L = altFit s N r' L := by
  unfold altFit
  rw [Bool.eq_iff_iff, List.all_eq_true, List.all_eq_true]
  constructor <;> intro hh f hf <;> have := hh f hf <;> unfold facFit at * <;> simp only [h f hf] at * <;> assumption
theorem expF_eq (s : ByteArray) (N : Nat → Bool) : ∀ n m x, s.size + 1 - x ≤ n → s.size + 1 - x ≤ m → x ≤ s.size → expF s N n x = expF s N m x
  | 0, m, x, h1, h2, h3 => by omega
  | n + 1, 0, x, h1, h2, h3 => by omega
  | n + 1, m + 1, x, h1, h2, h3 => by
    unfold expF
    have : ∀ a ∈ sts s x, altFit s N (expF s N n) (fe s a).1 = altFit s N (expF s N m) (fe s a).1 := fun a ha => altFit_congr (fun f hf => by
      have hb := sts_bd ha
      have hf' := fe_mem hf
      have hl := isF_lt hf'.1
      exact expF_eq s N n m (f + 1) (by omega) (by omega) (by omega))
    rw [Bool.eq_iff_iff, List.any_eq_true, List.any_eq_true]
    constructor <;> rintro ⟨a, ha, hh⟩ <;> refine ⟨a, ha, ?_⟩ <;> simpa [this a ha] using hh
theorem expFit_step {s : ByteArray} {N : Nat → Bool} {x : Nat} : expFit s N x = (sts s x).any fun a => altFit s N (expFit s N) (fe s a).1 := by
  show ((sts s x).any fun a => altFit s N (expF s N s.size) (fe s a).1) = _
  have : ∀ a ∈ sts s x, altFit s N (expF s N s.size) (fe s a).1 = altFit s N (expFit s N) (fe s a).1 := fun a ha => altFit_congr (fun f hf => by
    have hb := sts_bd ha
    have hf' := fe_mem hf
    have hl := isF_lt hf'.1
    exact expF_eq s N s.size (s.size + 1) (f + 1) (by omega) (by omega) (by omega))
  rw [Bool.eq_iff_iff, List.any_eq_true, List.any_eq_true]
  constructor <;> rintro ⟨a, ha, hh⟩ <;> refine ⟨a, ha, ?_⟩ <;> simpa [this a ha] using hh

/-- a name stands in the text -/
def Occ (s : ByteArray) (i : Nat) : Prop := ∃ f : Nat, cN (bt s f) = true ∧ (bt s f - 65).toNat = i
theorem facFit_mono {s : ByteArray} {N N' r r' : Nat → Bool} (hN : ∀ i, Occ s i → N i = true → N' i = true) (hr : ∀ x, r x = true → r' x = true) {f : Nat} (h : facFit s N r f = true) : facFit s N' r' f = true := by
  unfold facFit at *
  split at h
  · rename_i hc; rw [if_pos hc]; exact hN _ ⟨f, hc, rfl⟩ h
  · rename_i hc
    rw [if_neg hc]
    split at h
    · rename_i hd; rw [if_pos hd]; exact hr _ h
    · rename_i hd; rw [if_neg hd]
theorem altFit_mono {s : ByteArray} {N N' r r' : Nat → Bool} (hN : ∀ i, Occ s i → N i = true → N' i = true) (hr : ∀ x, r x = true → r' x = true) {L : List Nat} (h : altFit s N r L = true) : altFit s N' r' L = true := by
  unfold altFit at *
  rw [List.all_eq_true] at *
  exact fun f hf => facFit_mono hN hr (h f hf)
theorem expF_mono {s : ByteArray} {N N' : Nat → Bool} (hN : ∀ i, Occ s i → N i = true → N' i = true) : ∀ n x, expF s N n x = true → expF s N' n x = true
  | 0, x, h => by cases h
  | n + 1, x, h => by
    unfold expF at *
    rw [List.any_eq_true] at *
    obtain ⟨a, ha, hh⟩ := h
    exact ⟨a, ha, altFit_mono hN (expF_mono hN n) hh⟩
theorem expFit_mono {s : ByteArray} {N N' : Nat → Bool} (hN : ∀ i, Occ s i → N i = true → N' i = true) {x : Nat} (h : expFit s N x = true) : expFit s N' x = true := expF_mono hN _ x h
theorem expFit_congr {s : ByteArray} {N N' : Nat → Bool} (hN : ∀ i, Occ s i → N i = N' i) (x : Nat) : expFit s N x = expFit s N' x := by
  rw [Bool.eq_iff_iff]
  exact ⟨expFit_mono (fun i hi h => by rw [← hN i hi]; exact h), expFit_mono (fun i hi h => by rw [hN i hi]; exact h)⟩
theorem altFit_cong {s : ByteArray} {N N' : Nat → Bool} (hN : ∀ i, Occ s i → N i = N' i) (L : List Nat) : altFit s N (expFit s N) L = altFit s N' (expFit s N') L := by
  rw [Bool.eq_iff_iff]
  exact ⟨altFit_mono (fun i hi h => by rw [← hN i hi]; exact h) (fun x h => by rw [← expFit_congr hN]; exact h), altFit_mono (fun i hi h => by rw [hN i hi]; exact h) (fun x h => by rw [expFit_congr hN]; exact h)⟩

/-- has a name a tree of its expression, so low that it fits where so much is left around the name -/
def nFit (s : ByteArray) : Nat → Nat → Bool
  | 0, _ => false
  | l + 1, i => expFit s (nFit s l) (rl s (65 + i : Nat) + 2).toNat
theorem nFit_mono (s : ByteArray) : ∀ l i, nFit s l i = true → nFit s (l + 1) i = true
  | 0, i, h => by cases h
  | l + 1, i, h => by
    show expFit s (nFit s (l + 1)) _ = true
    exact expFit_mono (fun i _ h => nFit_mono s l i h) h

/-- by heights -/
theorem topH_le {s : ByteArray} {nm rec : Nat → Int} {l : Int} : ∀ (L : List Nat) (top : Int), topH s nm rec L top ≤ l ↔ top ≤ l ∧ ∀ f ∈ L, facH s nm rec f ≤ l
  | [], top => by simp [topH]
  | f :: L, top => by
    show topH s nm rec L (max top (facH s nm rec f)) ≤ l ↔ _
    rw [topH_le L]
    simp only [List.mem_cons, forall_eq_or_imp]
    constructor
    · rintro ⟨h1, h2⟩; exact ⟨by omega, by omega, h2⟩
    · rintro ⟨h1, h2, h3⟩; exact ⟨by omega, h3⟩
theorem minH_le {s : ByteArray} {nm rec : Nat → Int} {l : Int} : ∀ (al : List Nat) (best : Int), minH s nm rec al best ≤ l ↔ best ≤ l ∨ ∃ a ∈ al, altH s nm rec (fe s a).1 ≤ l
  | [], best => by simp [minH]
  | a :: al, best => by
    show minH s nm rec al (if altH s nm rec (fe s a).1 < best then altH s nm rec (fe s a).1 else best) ≤ l ↔ _
    rw [minH_le al]
    simp only [List.mem_cons, exists_eq_or_imp]
    constructor
    · rintro (h | h)
      · split at h
        · exact .inr (.inl h)
        · exact .inl h
      · exact .inr (.inr h)
    · rintro (h | h | h)
      · refine .inl ?_; split <;> omega
      · refine .inl ?_; split <;> omega
      · exact .inr h
theorem altH_fit {s : ByteArray} {nm rec : Nat → Int} {N r : Nat → Bool} {l : Int} (h0 : 0 ≤ l) (h9 : l < 99) (hN : ∀ i, (nm i + 1 ≤ l) ↔ N i = true) (hr : ∀ x, rec x ≤ l ↔ r x = true) (L : List Nat) : altH s nm rec L ≤ l ↔ altFit s N r L = true := by
  have h1 : altH s nm rec L ≤ l ↔ topH s nm rec L 0 ≤ l := by unfold altH; split <;> omega
  rw [h1, topH_le]
  unfold altFit
  rw [List.all_eq_true]
  have hf : ∀ f, facH s nm rec f ≤ l ↔ facFit s N r f = true := fun f => by
    unfold facH facFit
    split
    · exact hN _
    split
    · exact hr _
    · simpa using h0
  exact ⟨fun h f hm => (hf f).1 (h.2 f hm), fun h => ⟨h0, fun f hm => (hf f).2 (h f hm)⟩⟩
theorem lowF_fit {s : ByteArray} {nm : Nat → Int} {N : Nat → Bool} {l : Int} (h0 : 0 ≤ l) (h9 : l < 99) (hN : ∀ i, (nm i + 1 ≤ l) ↔ N i = true) : ∀ n x, lowF s nm n x ≤ l ↔ expF s N n x = true
  | 0, x => by simp [lowF, expF]; omega
  | n + 1, x => by
    unfold lowF expF
    rw [minH_le, List.any_eq_true]
    constructor
    · rintro (h | ⟨a, ha, h⟩)
      · omega
      · exact ⟨a, ha, (altH_fit h0 h9 hN (lowF_fit h0 h9 hN n) _).1 h⟩
    · rintro ⟨a, ha, h⟩
      exact .inr ⟨a, ha, (altH_fit h0 h9 hN (lowF_fit h0 h9 hN n) _).2 h⟩
theorem low_fit {s : ByteArray} {nm : Nat → Int} {l : Int} (h0 : 0 ≤ l) (h9 : l < 99) (x : Nat) : low s nm x ≤ l ↔ expFit s (fun i => decide (nm i + 1 ≤ l)) x = true :=
  lowF_fit h0 h9 (fun i => by simp) _ x
theorem altH_fit' {s : ByteArray} {nm : Nat → Int} {l : Int} (h0 : 0 ≤ l) (h9 : l < 99) (L : List Nat) : altH s nm (low s nm) L ≤ l ↔ altFit s (fun i => decide (nm i + 1 ≤ l)) (expFit s (fun i => decide (nm i + 1 ≤ l))) L = true :=
  altH_fit h0 h9 (fun i => by simp) (low_fit h0 h9) L

/-- the program's: from one height to the next -/
def pw (s : ByteArray) : Nat → Nat → Int
  | 0 => fun _ => 9
  | h + 1 => fun i => if pw s h i = 9 ∧ rl s (65 + i : Nat) ≠ -1 ∧ expFit s (fun j => decide (pw s h j < h)) (rl s (65 + i : Nat) + 2).toNat = true then h else pw s h i
theorem pw_succ (s : ByteArray) (h i : Nat) : pw s (h + 1) i = if pw s h i = 9 ∧ rl s (65 + i : Nat) ≠ -1 ∧ expFit s (fun j => decide (pw s h j < h)) (rl s (65 + i : Nat) + 2).toNat = true then (h : Int) else pw s h i := rfl
theorem pw_bd (s : ByteArray) : ∀ h i, h ≤ 9 → 0 ≤ pw s h i ∧ pw s h i ≤ 9 ∧ (pw s h i = 9 ∨ pw s h i < h)
  | 0, i, _ => by simp [pw]
  | h + 1, i, hh => by
    have := pw_bd s h i (by omega)
    rw [pw_succ]; split <;> omega
theorem pw_fit {s : ByteArray} (hO : ∀ j, Occ s j → rl s (65 + j : Nat) ≠ -1) : ∀ h, h ≤ 9 → ∀ i l, Occ s i → l ≤ h → (pw s h i < (l : Nat) ↔ nFit s l i = true)
  | 0, _, i, l, _, hl => by
    have : l = 0 := by omega
    subst this; simp [pw, nFit]
  | h + 1, hh, i, l, hi, hl => by
    have ih := pw_fit hO h (by omega)
    have hb := pw_bd s h i (by omega)
    have hr := hO i hi
    by_cases e : l = h + 1
    · subst e
      have e1 : nFit s (h + 1) i = expFit s (fun j => decide (pw s h j < h)) (rl s (65 + i : Nat) + 2).toNat := by
        show expFit s (nFit s h) _ = _
        refine expFit_congr (fun j hj => ?_) _
        rw [Bool.eq_iff_iff]; simp only [decide_eq_true_eq]; exact (ih j h hj (Nat.le_refl _)).symm
      rw [e1, pw_succ]
      by_cases h9 : pw s h i = 9
      · constructor
        · intro hlt
          split at hlt
          · rename_i hc; exact hc.2.2
          · omega
        · intro hf; rw [if_pos ⟨h9, hr, hf⟩]; omega
      · rw [if_neg (fun hc => h9 hc.1)]
        have hlt : pw s h i < h := by omega
        have := nFit_mono s h i ((ih i h hi (Nat.le_refl _)).1 hlt)
        rw [e1] at this
        simp only [this, iff_true]; omega
    · have hl' : l ≤ h := by omega
      rw [← ih i l hi hl', pw_succ]
      split
      · rename_i hc; rw [hc.1]; omega
      · exact Iff.rfl
end Go.Proofs.YtnfaiaoipeholaaGreatDoor
