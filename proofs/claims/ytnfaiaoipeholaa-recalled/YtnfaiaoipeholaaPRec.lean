/- The program's recaller: the walks, by one induction. (In memory it lies as a maker: the tree for the choices, the place for how many were taken.) -/
import Derived.Test.YtnfaiaoipeholaaPMakeE
import Derived.Test.YtnfaiaoipeholaaPEls
namespace Go.Proofs.Ytnfaiaoipeholaa
open Go.RowKit
section
variable {w : World} {b : Nat} {s t : ByteArray} {m : Int} {P : Nat → Int} {a : Nat} {T : List Int}

set_option maxHeartbeats 400000 in
set_option maxRecDepth 1000000 in
theorem note_any (hm : Mk w b s t m P a T) (hT : T.length ≤ 10000) (q r : Int) (n k : Nat) (hq : q = n) (hr : r = k) (hn : n ≤ 1000) (hk : k ≤ 9) : Calls Try.prog 95 #[.pointer (some ⟨b, 0, none⟩), .int .i64 q, .int .i64 r] w fun e w' => e = .returned (.tuple #[]) ∧ Mk w' b s t m P a (T ++ dgt n k) ∧ Below b w w' := by
  subst hq hr
  by_cases h : 1 < n
  · have e : dgt n k = [48 + (k : Int)] := by unfold dgt; rw [if_pos h]
    rw [e]
    clear e
    obtain ⟨v, h1, h2⟩ := hm.tre
    obtain ⟨i1, hi1, hy0, hy1, hy2⟩ := info_parts Try.infoByte
    have h3 := hm.trf
    have HM := hide hm
    go_enter Try.func95, Try.ntmps95
    go_wp2_with (first | (at_builtin; refine wpList_append_lies _ rfl _ _ 45 rfl (b + 1) 5 i1 (.int .u8 0) 1 1 Try.underlying45 hi1 hy0 hy1 hy2 rfl (by decide) _ _ _ rfl (h2.alloc _) ⟨_, 0, none⟩ 1 1 [.int .u8 (48 + (k : Int))] rfl rfl ?c1 ?c2 ?c3 ?c4 ?c5 ?c6 _ rfl ?_))
    case c1 => exact World.news_of_block (heap_alloc_new _ _)
    case c2 => intro u hu; simp at hu; subst hu; rfl
    case c3 => omega
    case c4 => unfold maxLen; omega
    case c5 => omega
    case c6 => have := hm.lt; simp; omega
    · intro g1 cap1 w3 hown3 hg3 hb3 hlt3
      have hbel : Below (b + 1) w w3 := ((Below.refl (b + 1) w).alloc (by have := hm.lt; omega) _).grown hg3 (by have := hm.lt; simp; omega) (fun j hj => (h2.lt j hj).1)
      have hc : ∀ o, w3.cell? ⟨b, o, none⟩ = w.cell? ⟨b, o, none⟩ := fun o => hbel.cell (p := ⟨b, o, none⟩) (Nat.lt_succ_self b)
      have hf : ∀ o, w3.frozen? ⟨b, o, none⟩ = w.frozen? ⟨b, o, none⟩ := fun o => hbel.frozen (p := ⟨b, o, none⟩) (Nat.lt_succ_self b)
      have k1 := (hc 30).trans h1
      have k2 := (hf 30).trans h3
      have HC := hide hc; have HF := hide hf; have HO := hide hown3; have HB := hide hbel
      clear hc hf hown3 hbel hg3 hb3
      go_wp2
      go_end0
      refine ⟨rfl, ?_, Below.setCell (B := b) ((unhide HB).mono (Nat.le_succ b)) (p := ⟨b, 30, none⟩) (Nat.le_refl b) _⟩
      have hm := unhide HM
      have ho : ∀ o, o ≠ 30 → (w3.setCell ⟨b, 30, none⟩ (.slice (some ⟨g1, 0, none⟩) (T.length + 1) cap1)).cell? ⟨b, o, none⟩ = w.cell? ⟨b, o, none⟩ := fun o ho => (World.cell?_setCell_other w3 _ _ _ (fun e => ho (by injection e with _ e; exact e.symm))).trans (unhide HC o)
      refine ⟨⟨(ho 0 (by omega)).trans hm.gd.gram, (ho 1 (by omega)).trans hm.gd.most, fun i hi => (ho _ (by omega)).trans (hm.gd.low i hi)⟩, ?_, (ho 28 (by omega)).trans hm.chs, (ho 29 (by omega)).trans hm.tak, by rw [World.frozen?_setCell]; exact (unhide HF 29).trans hm.tkf, ⟨_, World.cell?_setCell_same w3 _ _ k1, ?_⟩, by rw [World.frozen?_setCell]; exact k2⟩
      · have := hm.lt; have := (unhide HB).size; simp; omega
      · rw [byts_push]
        have := own_set (b := b) (o := 30) (u := .slice (some ⟨g1, 0, none⟩) (T.length + 1) cap1) (unhide HO)
        simpa using this
  · have e : dgt n k = [] := by unfold dgt; rw [if_neg h]
    rw [e, List.append_nil]
    clear e
    go_enter Try.func95, Try.ntmps95
    go_wp2
    go_end0
    exact ⟨rfl, hm, Below.refl _ _⟩
end

/-- what recalling leaves -/
def OutQ (b : Nat) (s t : ByteArray) (m : Nat) (P : Nat → Int) (w : World) (j : Nat) (D : List Int) (e : Ending) (w' : World) : Prop :=
  e = .returned (.tuple #[]) ∧ Mk w' b s t m P j D ∧ Below b w w' ∧ D.length ≤ j
/-- expressions, to this depth -/
def SaidQ (b : Nat) (s t : ByteArray) (m : Nat) (P : Nat → Int) (n : Nat) : Prop :=
  ∀ (q lq : Int) (x l i j h : Nat) (D : List Int) (w : World), Mk w b s t m P i D → q = x → lq = l → x ≤ s.size → l ≤ 9 → (sts s x).length ≤ 10 → pE s t 0 n x i = some (j, h) → h ≤ l → D.length ≤ i →
    Calls Try.prog 93 #[.pointer (some ⟨b, 0, none⟩), .int .i64 q, .int .i64 lq] w fun e w' => OutQ b s t m P w j (D ++ dE s t m n l x i) e w'
section
variable {b : Nat} {s t : ByteArray} {m : Nat} {P : Nat → Int}

set_option maxHeartbeats 1000000 in
theorem recallName_any (v : Ev s t m P) (ht : t.size ≤ 2000) {n : Nat} (hE : SaidQ b s t m P n) (lq : Int) (f l i a k : Nat) (D : List Int) (w : World) (hk : Mk w b s t m P (i + 1) D) (hl : lq = l) (hl9 : l ≤ 9) (hf : cN (bt s f) = true)
    (hq : pE s t 0 n (rl s (bt s f) + 2).toNat (i + 2) = some (a, k)) (h41 : bt t a = 41) (hkl : k + 1 ≤ l) (hD : D.length ≤ i) :
    Calls Try.prog 59 #[.pointer (some ⟨b, 0, none⟩), .int .u8 (bt s f), .int .i64 lq] w fun e w' => OutQ b s t m P w (a + 1) (D ++ dE s t m n (l - 1) (rl s (bt s f) + 2).toNat (i + 2)) e w' := by
  subst hl
  have hs := v.gram.small
  obtain ⟨j, j1, j2, j3, j4, j5⟩ := name_place v.gram v.ten hf
  have hfw := pE_fwd s t 0 n _ _ a k hq
  have hal := bt_lt (s := t) (p := a) (by omega)
  rw [j5] at hq ⊢
  have c0 := hk.gd.gram
  have c29 := hk.tak
  have f29 := hk.tkf
  generalize hR : dE s t m n (l - 1) (j + 2) (i + 2) = R
  have HR := hide hR
  have HJ := hide j1
  have HQ := hide hq
  have HK := hide (hk.take (i + 2))
  have HB : Hid (∀ u : Value, Below b w (w.setCell ⟨b, 29, none⟩ u)) := hide (fun u => (Below.refl _ _).setCell (p := ⟨b, 29, none⟩) (Nat.le_refl _) u)
  have H4 := hide j4
  clear hR hq hk j1 j4 j5 hf h41
  generalize bt s f = nm at *
  go_enter Try.func59, Try.ntmps59
  go_wp2_with (first
    | (go_at_call 53; refine (expression_any s _ j _ hs (unhide HJ) j2).mono ?_; rintro e w' ⟨rfl, hw⟩; replace hw := hw.symm; subst hw)
    | (go_at_call 93; refine (hE _ _ (j + 2) (l - 1) (i + 2) a k D _ (unhide HK) (by go_num) (by omega) j3 (by omega) (unhide H4) (unhide HQ) (by omega) (by omega)).mono ?_; rw [unhide HR]; rintro e w2 ⟨rfl, hk2, hb2, hD2⟩; have d29 := hk2.tak; have g29 := hk2.tkf; replace hk2 := hide (hk2.take (a + 1)); replace hb2 := hide hb2))
  go_end0
  exact ⟨rfl, unhide hk2, Below.setCell (B := b) ((unhide HB _).trans (unhide hb2)) (p := ⟨b, 29, none⟩) (Nat.le_refl b) _, by omega⟩


set_option maxHeartbeats 1000000 in
set_option maxRecDepth 1000000 in
theorem recallBracket_any (v : Ev s t m P) (ht : t.size ≤ 2000) {n : Nat} (hE : SaidQ b s t m P n) (q lq : Int) (f l i j h : Nat) (D : List Int) (w : World) (hk : Mk w b s t m P (i + 1) D) (hq : q = f) (hl : lq = l) (hl9 : l ≤ 9) (hf : isF s f = true) (hO : cO (bt s f) = true)
    (hp : pB s t 0 (pE s t 0 n) f (i + 1) = some (j, h)) (hhl : h ≤ l) (hmx : (els t i : Int) ≤ m) (hD : D.length ≤ i) (hit : i < t.size) :
    Calls Try.prog 60 #[.pointer (some ⟨b, 0, none⟩), .int .i64 q, .int .i64 lq] w fun e w' => OutQ b s t m P w j (D ++ dB s t m (pE s t 0 n) (dE s t m n) l f (i + 1)) e w' := by
  subst hq hl
  have hs := v.gram.small
  have hs' : s.size ≤ maxLen := by unfold maxLen; omega
  have hm1 := v.hm.1
  have hm5 := v.hm.2
  have hfl := isF_lt hf
  have c0 := hk.gd.gram
  have c28 := hk.chs
  have c29 := hk.tak
  have hce := cnt_eq v (l := l) (f := f) hl9
  have hcb := cnt_bd (s := s) v.hm l f
  obtain ⟨hcb1, hcb2⟩ := hcb
  have hne := els_bracket (i := i) hO hp
  have hfewle : few (bt s f) ≤ nB s t (pE s t 0 n) f (i + 1) := by
    have hx : cX (cC (bt s f)) = true := cX_cC _ (by simpa [cO] using hO)
    unfold pB at hp
    unfold nB few
    split at hp
    · rename_i hh; rw [if_pos hh, if_neg (by omega)]; omega
    · rename_i hh
      rw [if_neg hh]
      have := (pEl_skip (rec := pE s t 0 n (f + 1)) (fun i j h e => pE_skip s t 0 n (f + 1) i j h e) hx _ _ _ _ _ _ hp 1 0 (by omega)).2
      split <;> omega
  have hfew : few (bt s f) ≤ 1 := by unfold few; split <;> omega
  have ht10 := v.ten.sub f hO
  have hRest := Rest.start (s := s) (t := t) (D := D) (l := l) (dr := dE s t m n) (fun i j h e => pE_skip s t 0 n (f + 1) i j h e) hO hp m
  have hjt : j ≤ t.size := (pB_fwd (most := 0) (fun x i => pE_fwd s t 0 n x i) (by simpa [cO] using hO) j h hp).2.1
  generalize hR : D ++ dB s t m (pE s t 0 n) (dE s t m n) l f (i + 1) = R at *
  generalize hC : nB s t (pE s t 0 n) f (i + 1) = C at *
  generalize hcnt : cnt s m l f = N at *
  generalize hFw : few (bt s f) = F at *
  have hdl := dgt_len N (C - F)
  have hC5 : C ≤ 5 := by omega
  have HNE := hide hne
  have HCE := hide hce
  have HFW := hide hFw
  have HRE := hide hRest
  have HK := hide hk
  have H10 := hide ht10
  have HF := hide hf
  have HO := hide hO
  have hw1 : IntKind.i64.wrap (i : Int) = (i : Int) := by simp [IntKind.wrap, IntKind.signed, IntKind.bits]; omega
  clear hR hce hFw hRest hk ht10 hf hO hC hcnt hne hp
  go_enter Try.func60, Try.ntmps60
  go_wp2_with (first
    | (go_at_call 52; refine (at_any _ _ _ hs').mono ?_; rintro e w' ⟨rfl, hw⟩; replace hw := hw.symm; subst hw))
  go_region_held (fun w' => w'.cell? ⟨b, 28, none⟩ = some (.string t) ∧ w'.cell? ⟨b, 29, none⟩ = some (.int .i64 ((i + 1 : Nat) : Int))) (exact ⟨c28, c29⟩) (first | (go_at_call 57; refine (tElements_any _ _ i _ ht rfl (Nat.le_of_lt hit)).mono ?_; rw [unhide HNE]; rintro e w' ⟨rfl, rfl⟩))
  clear hw1
  have HKd := hide (unhide HK).drew
  have d0 := (unhide HKd).gd.gram
  go_wp2_with (first
    | (go_at_call 94; refine (counts_any v.ten hs _ f m b _ (unhide HKd).gd v.hm rfl (unhide HF) (unhide HO)).mono ?_; rw [unhide HCE]; rintro e w' ⟨rfl, hw⟩; replace hw := hw.symm; subst hw)
    | (go_at_call 62; refine (fewest_any _ _).mono ?_; rw [unhide HFW]; rintro e w' ⟨rfl, hw⟩; replace hw := hw.symm; subst hw)
    | (go_at_call 95; refine (note_any (unhide HKd) (by omega) _ _ N (C - F) rfl (by omega) (by omega) (by omega)).mono ?_; rintro e w1 ⟨rfl, hk1, hb1⟩; replace hk1 := hide hk1; replace hb1 : Hid (Below b w w1) := hide (((Below.refl _ _).drew).trans hb1)))
  generalize hDD : D ++ dgt N (C - F) = DD at *
  have hDDl : DD.length ≤ i + 1 := by rw [← hDD]; simp only [List.length_append]; omega
  clear hDD hdl HK HKd
  go_loopw [9] (fun iv wr => ∃ (k q : Nat) (D1 : List Int), iv = .int .i64 k ∧ k ≤ C ∧ q ≤ t.size ∧ Hid (Mk wr b s t m P q D1) ∧ Hid (Below b w wr) ∧ Hid (Rest t (pE s t 0 n (f + 1)) (dE s t m n l (f + 1)) (cC (bt s f)) j h k C q D1 R) ∧ D1.length ≤ q) (fun iv _ => 30 - (intOf iv).toNat)
  case atStart => exact ⟨0, i + 1, DD, by go_num, Nat.zero_le _, by omega, hk1, hb1, HRE, hDDl⟩
  case round =>
    obtain ⟨k, q, D1, rfl, hkc, hqt, hM, hB, hRe, hD1⟩ := hrel
    have c29' := (unhide hM).tak
    have f29' := (unhide hM).tkf
    by_cases hlt : k < C
    · obtain ⟨a, k', hq1, hk', hRe'⟩ := (unhide hRe).more hlt
      have hfw := pE_fwd s t 0 n _ _ a k' hq1
      by_cases hk0 : k = 0
      · subst hk0
        rw [if_pos rfl] at hq1 hRe' hfw
        have HQ := hide hq1
        have HRe := hide hRe'
        clear hq1 hRe' hRe
        go_wp2_with (go_at_call 93; refine (hE _ _ (f + 1) l q a k' D1 _ (unhide hM) (by go_num) rfl (by omega) hl9 (unhide H10) (unhide HQ) (by omega) hD1).mono ?_; rintro e w2 ⟨rfl, hk2, hb2, hD2⟩; replace hk2 := hide hk2; replace hb2 := hide hb2)
        go_roundw
        case rel => exact ⟨1, a, _, by go_num, by omega, by omega, hk2, hide ((unhide hB).trans (unhide hb2)), HRe, hD2⟩
        case measure => simp [intOf]
      · rw [if_neg hk0] at hq1 hRe' hfw
        have hk0' : decide ((k : Int) > 0) = true := by simp; omega
        have HQ := hide hq1
        have HRe := hide hRe'
        have HT := hide ((unhide hM).take (q + 1))
        have HBs : Hid (∀ u : Value, Below b wr (wr.setCell ⟨b, 29, none⟩ u)) := hide (fun u => (Below.refl _ _).setCell (p := ⟨b, 29, none⟩) (Nat.le_refl _) u)
        clear hq1 hRe' hRe
        go_wp2_with (go_at_call 93; refine (hE _ _ (f + 1) l (q + 1) a k' D1 _ (unhide HT) (by go_num) rfl (by omega) hl9 (unhide H10) (unhide HQ) (by omega) (by omega)).mono ?_; rintro e w2 ⟨rfl, hk2, hb2, hD2⟩; replace hk2 := hide hk2; replace hb2 := hide hb2)
        go_roundw
        case rel => exact ⟨k + 1, a, _, by go_num, by omega, by omega, hk2, hide (((unhide hB).trans (unhide HBs _)).trans (unhide hb2)), HRe, hD2⟩
        case measure => simp [intOf]; omega
    · have hkC : k = C := by omega
      subst hkC
      have hend : q + 1 = j ∧ D1 = R := by
        rcases unhide hRe with ⟨_, a, b⟩ | ⟨a, _⟩
        · exact ⟨a, b⟩
        · omega
      obtain ⟨he1, he2⟩ := hend
      subst he1 he2
      have HT := hide ((unhide hM).take (q + 1))
      clear hRe
      go_wp2
      go_end0
      exact ⟨rfl, unhide HT, Below.setCell (B := b) (unhide hB) (p := ⟨b, 29, none⟩) (Nat.le_refl b) _, by omega⟩
end
end Go.Proofs.Ytnfaiaoipeholaa
