/- PNewC PWrite2 PWrite3 PWrite4 -/
import Derived.Test.YtnfaiaoipeholaaGreatDoorAa24
import Derived.Test.YtnfaiaoipeholaaGreatDoorAa25
namespace Go.Proofs.YtnfaiaoipeholaaGreatDoor
open Go.RowKit
section
variable {s u : ByteArray}
set_option maxHeartbeats 1000000 in
set_option maxRecDepth 1000000 in
theorem newSpot_any (g : Gram s) (w : World) (pq : Int) (p : Nat) (hp : p < s.size) (e1 : pq = p) :
    Calls Tryz.prog 143 #[.string s, .int .i64 pq] w fun e w' => e = .returned (spV s p) ∧ Below w.heap.size w w' := by
  subst e1
  have hs := g.small
  have hs' : s.size ≤ maxLen := by unfold maxLen; omega
  have H1 := hide (fun w => behind_any s p p w hs rfl (by omega))
  have H2 := hide (fun w => next_any s p p w hs rfl (by omega))
  have HBel : Hid (∀ o1 o2, Below w.heap.size w ((w.alloc o1).alloc o2)) := hide (fun o1 o2 => ((Below.refl _ _).alloc (Nat.le_refl _) o1).alloc (by simp) o2)
  unfold spV
  generalize hb1 : ((bh s p : Nat) : Int) = v1 at *
  generalize hb2 : pl (nx s p) = v2 at *
  clear hb1 hb2
  by_cases hn : cN (bt s p) = true
  · obtain ⟨j, j1, j2, _, _⟩ := g.name p hn
    have hwi : ((wi s p : Nat) : Int) = (j : Int) + 2 := by unfold wi; rw [if_pos hn, j1]; omega
    rw [hwi]
    have HN := hide hn
    have HJ := hide j1
    clear hn hwi j1
    unfold begs
    by_cases h61 : bt s ((p : Int) - 1) = 61
    · rw [show (bt s ((p : Int) - 1) == 61 || cO (bt s ((p : Int) - 1))) = true by simp [h61]]
      have h61' : (bt s ((p : Int) - 1) == 61) = true := by simp [h61]
      clear h61
      go_enter Tryz.func143, Tryz.ntmps143
      go_wp2_with (first
        | (go_at_call 87; refine (at_any _ _ _ hs').mono ?_; rintro e w' ⟨rfl, rfl⟩)
        | (go_at_call 86; refine (isName_any _ _).mono ?_; rintro e w' ⟨rfl, rfl⟩; rw [unhide HN])
        | (go_at_call 88; refine (expression_any s _ j _ hs (unhide HJ) j2).mono ?_; rintro e w' ⟨rfl, rfl⟩)
        | (go_at_call 169; refine (unhide H1 _).mono ?_; rintro e w' ⟨rfl, rfl⟩)
        | (go_at_call 166; refine (unhide H2 _).mono ?_; rintro e w' ⟨rfl, rfl⟩))
      refine bodyPost_ret (v := .agg #[.int .i64 ((j : Int) + 2), .int .i64 v1, .int .i64 v2, .bool true]) (results_cell_mid Tryz.results143 _ _ w.heap.size [.int .i64 ((j : Int) + 2), .int .i64 v1, .int .i64 v2, .bool true] _ rfl ?_ Tryz.underlying137 rfl Tryz.infoSpot) rfl ⟨rfl, unhide HBel _ _⟩
      exact range_below (range_alloc w [.int .i64 ((j : Int) + 2), .int .i64 v1, .int .i64 v2, .bool true] _) ((Below.refl _ _).alloc (Nat.le_refl _) _)
    · rw [show (bt s ((p : Int) - 1) == 61 || cO (bt s ((p : Int) - 1))) = cO (bt s ((p : Int) - 1)) by simp [h61]]
      have h61' : (bt s ((p : Int) - 1) == 61) = false := by simp [h61]
      clear h61
      cases ho : cO (bt s ((p : Int) - 1))
      · have HO := hide ho
        clear ho
        go_enter Tryz.func143, Tryz.ntmps143
        go_wp2_with (first
          | (go_at_call 87; refine (at_any _ _ _ hs').mono ?_; rintro e w' ⟨rfl, rfl⟩)
          | (go_at_call 86; refine (isName_any _ _).mono ?_; rintro e w' ⟨rfl, rfl⟩; rw [unhide HN])
          | (go_at_call 88; refine (expression_any s _ j _ hs (unhide HJ) j2).mono ?_; rintro e w' ⟨rfl, rfl⟩)
          | (go_at_call 169; refine (unhide H1 _).mono ?_; rintro e w' ⟨rfl, rfl⟩)
          | (go_at_call 166; refine (unhide H2 _).mono ?_; rintro e w' ⟨rfl, rfl⟩)
          | (go_at_call 92; refine (isOpening_any _ _).mono ?_; rintro e w' ⟨rfl, rfl⟩; rw [unhide HO]))
        refine bodyPost_ret (v := .agg #[.int .i64 ((j : Int) + 2), .int .i64 v1, .int .i64 v2, .bool false]) (results_cell_mid Tryz.results143 _ _ w.heap.size [.int .i64 ((j : Int) + 2), .int .i64 v1, .int .i64 v2, .bool false] _ rfl ?_ Tryz.underlying137 rfl Tryz.infoSpot) rfl ⟨rfl, unhide HBel _ _⟩
        exact range_below (range_alloc w [.int .i64 ((j : Int) + 2), .int .i64 v1, .int .i64 v2, .bool false] _) ((Below.refl _ _).alloc (Nat.le_refl _) _)
      · have HO := hide ho
        clear ho
        go_enter Tryz.func143, Tryz.ntmps143
        go_wp2_with (first
          | (go_at_call 87; refine (at_any _ _ _ hs').mono ?_; rintro e w' ⟨rfl, rfl⟩)
          | (go_at_call 86; refine (isName_any _ _).mono ?_; rintro e w' ⟨rfl, rfl⟩; rw [unhide HN])
          | (go_at_call 88; refine (expression_any s _ j _ hs (unhide HJ) j2).mono ?_; rintro e w' ⟨rfl, rfl⟩)
          | (go_at_call 169; refine (unhide H1 _).mono ?_; rintro e w' ⟨rfl, rfl⟩)
          | (go_at_call 166; refine (unhide H2 _).mono ?_; rintro e w' ⟨rfl, rfl⟩)
          | (go_at_call 92; refine (isOpening_any _ _).mono ?_; rintro e w' ⟨rfl, rfl⟩; rw [unhide HO]))
        refine bodyPost_ret (v := .agg #[.int .i64 ((j : Int) + 2), .int .i64 v1, .int .i64 v2, .bool true]) (results_cell_mid Tryz.results143 _ _ w.heap.size [.int .i64 ((j : Int) + 2), .int .i64 v1, .int .i64 v2, .bool true] _ rfl ?_ Tryz.underlying137 rfl Tryz.infoSpot) rfl ⟨rfl, unhide HBel _ _⟩
        exact range_below (range_alloc w [.int .i64 ((j : Int) + 2), .int .i64 v1, .int .i64 v2, .bool true] _) ((Below.refl _ _).alloc (Nat.le_refl _) _)
  · have hwi : ((wi s p : Nat) : Int) = (p : Int) + 1 := by unfold wi; rw [if_neg hn]; omega
    rw [hwi]
    have HN : Hid (cN (bt s p) = false) := hide (by simpa using hn)
    clear hn hwi
    unfold begs
    by_cases h61 : bt s ((p : Int) - 1) = 61
    · rw [show (bt s ((p : Int) - 1) == 61 || cO (bt s ((p : Int) - 1))) = true by simp [h61]]
      have h61' : (bt s ((p : Int) - 1) == 61) = true := by simp [h61]
      clear h61
      go_enter Tryz.func143, Tryz.ntmps143
      go_wp2_with (first
        | (go_at_call 87; refine (at_any _ _ _ hs').mono ?_; rintro e w' ⟨rfl, rfl⟩)
        | (go_at_call 86; refine (isName_any _ _).mono ?_; rintro e w' ⟨rfl, rfl⟩; rw [unhide HN])
        | (go_at_call 169; refine (unhide H1 _).mono ?_; rintro e w' ⟨rfl, rfl⟩)
        | (go_at_call 166; refine (unhide H2 _).mono ?_; rintro e w' ⟨rfl, rfl⟩))
      refine bodyPost_ret (v := .agg #[.int .i64 ((p : Int) + 1), .int .i64 v1, .int .i64 v2, .bool true]) (results_cell_mid Tryz.results143 _ _ w.heap.size [.int .i64 ((p : Int) + 1), .int .i64 v1, .int .i64 v2, .bool true] _ rfl ?_ Tryz.underlying137 rfl Tryz.infoSpot) rfl ⟨rfl, unhide HBel _ _⟩
      exact range_below (range_alloc w [.int .i64 ((p : Int) + 1), .int .i64 v1, .int .i64 v2, .bool true] _) ((Below.refl _ _).alloc (Nat.le_refl _) _)
    · rw [show (bt s ((p : Int) - 1) == 61 || cO (bt s ((p : Int) - 1))) = cO (bt s ((p : Int) - 1)) by simp [h61]]
      have h61' : (bt s ((p : Int) - 1) == 61) = false := by simp [h61]
      clear h61
      cases ho : cO (bt s ((p : Int) - 1))
      · have HO := hide ho
        clear ho
        go_enter Tryz.func143, Tryz.ntmps143
        go_wp2_with (first
          | (go_at_call 87; refine (at_any _ _ _ hs').mono ?_; rintro e w' ⟨rfl, rfl⟩)
          | (go_at_call 86; refine (isName_any _ _).mono ?_; rintro e w' ⟨rfl, rfl⟩; rw [unhide HN])
          | (go_at_call 169; refine (unhide H1 _).mono ?_; rintro e w' ⟨rfl, rfl⟩)
          | (go_at_call 166; refine (unhide H2 _).mono ?_; rintro e w' ⟨rfl, rfl⟩)
          | (go_at_call 92; refine (isOpening_any _ _).mono ?_; rintro e w' ⟨rfl, rfl⟩; rw [unhide HO]))
        refine bodyPost_ret (v := .agg #[.int .i64 ((p : Int) + 1), .int .i64 v1, .int .i64 v2, .bool false]) (results_cell_mid Tryz.results143 _ _ w.heap.size [.int .i64 ((p : Int) + 1), .int .i64 v1, .int .i64 v2, .bool false] _ rfl ?_ Tryz.underlying137 rfl Tryz.infoSpot) rfl ⟨rfl, unhide HBel _ _⟩
        exact range_below (range_alloc w [.int .i64 ((p : Int) + 1), .int .i64 v1, .int .i64 v2, .bool false] _) ((Below.refl _ _).alloc (Nat.le_refl _) _)
      · have HO := hide ho
        clear ho
        go_enter Tryz.func143, Tryz.ntmps143
        go_wp2_with (first
          | (go_at_call 87; refine (at_any _ _ _ hs').mono ?_; rintro e w' ⟨rfl, rfl⟩)
          | (go_at_call 86; refine (isName_any _ _).mono ?_; rintro e w' ⟨rfl, rfl⟩; rw [unhide HN])
          | (go_at_call 169; refine (unhide H1 _).mono ?_; rintro e w' ⟨rfl, rfl⟩)
          | (go_at_call 166; refine (unhide H2 _).mono ?_; rintro e w' ⟨rfl, rfl⟩)
          | (go_at_call 92; refine (isOpening_any _ _).mono ?_; rintro e w' ⟨rfl, rfl⟩; rw [unhide HO]))
        refine bodyPost_ret (v := .agg #[.int .i64 ((p : Int) + 1), .int .i64 v1, .int .i64 v2, .bool true]) (results_cell_mid Tryz.results143 _ _ w.heap.size [.int .i64 ((p : Int) + 1), .int .i64 v1, .int .i64 v2, .bool true] _ rfl ?_ Tryz.underlying137 rfl Tryz.infoSpot) rfl ⟨rfl, unhide HBel _ _⟩
        exact range_below (range_alloc w [.int .i64 ((p : Int) + 1), .int .i64 v1, .int .i64 v2, .bool true] _) ((Below.refl _ _).alloc (Nat.le_refl _) _)

end
end Go.Proofs.YtnfaiaoipeholaaGreatDoor

namespace Go.Proofs.YtnfaiaoipeholaaGreatDoor
open Go.RowKit
/-- what writing leaves -/
def OutW (wb b : Nat) (s u : ByteArray) (r x y q : Nat) (R X W : Tb) (w : World) (T L : List Int) (e : Ending) (w' : World) : Prop :=
  e = .returned (.tuple #[]) ∧ Wt w' wb b s u r x y q R X W (T ++ L) ∧ Below wb w w'
/-- expressions of so many bytes -/
def SaidP (wb b : Nat) (s u : ByteArray) (r x y q : Nat) (R X W : Tb) (n : Nat) : Prop :=
  ∀ (xq aq eq : Int) (p a e : Nat) (T : List Int) (w : World), Wt w wb b s u r x y q R X W T → xq = p → aq = a → eq = e → p < s.size → begs s p = true → a ≤ e → e ≤ u.size → X p a e ≤ n → X p a e ≤ 2000 → T.length + X p a e ≤ 4000 →
    Calls Tryz.prog 147 #[.pointer (some ⟨wb, 0, none⟩), .int .i64 xq, .int .i64 aq, .int .i64 eq] w (OutW wb b s u r x y q R X W w T (wrE s u R X W n p a e))
section
variable {wb b : Nat} {s u : ByteArray} {r x y q : Nat} {R X W : Tb}
theorem wrE_len (fx : Fix s u R X W) (g : Gram s) (ins : Ins s) {n p a e : Nat} (hp : p < s.size) (hb : begs s p = true) (hae : a ≤ e) (he : e ≤ u.size) (h1 : X p a e ≤ n) (h2 : X p a e ≤ 2000) : (wrE s u R X W n p a e).length = X p a e :=
  (wrE_ok (t := s) fx g ins n p a e hp hb hae he h1 h2 n (Nat.le_refl _)).len
theorem wrR_one {X W : Tb} {rec : Nat → Nat → List Int} {p m a e : Nat} (h : rwC X W p a e = (X p a e, e)) : wrR X W rec p (m + 1) a e = rec a e := by
  unfold wrR; rw [h]; simp
theorem wrR_two {X W : Tb} {rec : Nat → Nat → List Int} {p m a k e : Nat} {v : Nat} (h : rwC X W p a e = (v, k)) (hk : k < e) : wrR X W rec p (m + 1) a e = rec a k ++ (44 :: wrR X W rec p m k e) := by
  conv => lhs; unfold wrR
  rw [h]; simp [hk]

set_option maxHeartbeats 1000000 in
set_option maxRecDepth 1000000 in
theorem writeRow_any (fx : Fix s u R X W) (g : Gram s) (ins : Ins s) {n : Nat} (hE : SaidP wb b s u r x y q R X W n) (p : Nat) (hp : p < s.size) (hb : begs s p = true) : ∀ (m : Nat) (xq aq eq : Int) (a e : Nat) (T : List Int) (w : World), Wt w wb b s u r x y q R X W T → xq = p → aq = a → eq = e → e - a < m → a ≤ e → e ≤ u.size → W p a e ≤ n → W p a e ≤ 2000 → T.length + W p a e ≤ 4000 →
    Calls Tryz.prog 146 #[.pointer (some ⟨wb, 0, none⟩), .int .i64 xq, .int .i64 aq, .int .i64 eq] w (OutW wb b s u r x y q R X W w T (wrR X W (wrE s u R X W n p) p m a e))
  | 0, xq, aq, eq, a, e, T, w, hk, e1, e2, e3, hm, hae, he, h1, h2, h3 => by omega
  | m + 1, xq, aq, eq, a, e, T, w, hk, e1, e2, e3, hm, hae, he, h1, h2, h3 => by
    have ih := writeRow_any fx g ins hE p hp hb m
    subst e1 e2 e3
    have H1 := hide (row_any fx.toNrm hk.ch p a e p a e hp hae he rfl rfl rfl)
    have hW := (fx.fix a e hae he).row p hp hb
    have hptr := hk.ptr
    have hwl := hk.lt
    rcases rwC_cases (X := X) (W := W) p a e with k | ⟨k, k1, k2, k3⟩
    · rw [wrR_one k]
      have hXW : X p a e = W p a e := by rw [hW, k]
      have H2 := hide (fun w1 h1' => hE p a e p a e T w1 h1' rfl rfl rfl hp hb hae he (by omega) (by omega) (by omega))
      rw [k] at H1
      have HK := hide hk
      generalize wrE s u R X W n p a e = L at *
      clear hW k ih hE hk hXW h1 h2
      generalize X p a e = vx at *
      generalize W p a e = vw at *
      go_enter Tryz.func146, Tryz.ntmps146
      go_wp2_with fail
      refine (unhide H1).mono ?_
      rintro e1' w1 ⟨rfl, hb1⟩
      have hk1 := hide ((unhide HK).below hb1)
      replace hb1 := hide hb1
      unfold two
      go_wp2_with fail
      refine (unhide H2 _ (unhide hk1)).mono ?_
      rintro e2' w2 ⟨rfl, hk2, hb2⟩
      replace hk2 := hide hk2
      have hb2' : Hid (Below wb w w2) := hide (((unhide hb1).mono (Nat.le_of_lt hwl)).trans hb2)
      clear hb2
      go_wp2
      go_end0
      exact ⟨rfl, unhide hk2, unhide hb2'⟩
    · rw [wrR_two k3 k2]
      have hXW : W p a e = X p a k + 1 + W p k e := by rw [hW, k3]
      have hlen : (wrE s u R X W n p a k).length = X p a k := wrE_len fx g ins hp hb (by omega) (by omega) (by omega) (by omega)
      have H2 := hide (fun w1 h1' => hE p a k p a k T w1 h1' rfl rfl rfl hp hb (by omega) (by omega) (by omega) (by omega) (by omega))
      have H4 := hide (fun (w1 : World) (T1 : List Int) (hT1 : T1.length = T.length + X p a k + 1) h1' => ih p k e k e T1 w1 h1' rfl rfl rfl (by omega) (by omega) he (by omega) (by omega) (by omega))
      rw [k3] at H1
      have HK := hide hk
      generalize wrE s u R X W n p a k = L at *
      generalize wrR X W (wrE s u R X W n p) p m k e = L2 at *
      clear hW k3 ih hE hk h1 h2
      generalize X p a k = vx at *
      generalize W p k e = vw at *
      go_enter Tryz.func146, Tryz.ntmps146
      go_wp2_with fail
      refine (unhide H1).mono ?_
      rintro e1' w1 ⟨rfl, hb1⟩
      have hk1 := hide ((unhide HK).below hb1)
      replace hb1 := hide hb1
      unfold two
      go_wp2_with fail
      refine (unhide H2 _ (unhide hk1)).mono ?_
      rintro e2' w2 ⟨rfl, hk2, hb2⟩
      replace hk2 := hide hk2
      have hb2' : Hid (Below wb w w2) := hide (((unhide hb1).mono (Nat.le_of_lt hwl)).trans hb2)
      clear hb2
      go_wp2_with fail
      refine (wwrite_any (unhide hk2) (by simp; omega) 44).mono ?_
      rintro e3' w3 ⟨rfl, hk3, hb3⟩
      have hb3' : Hid (Below wb w w3) := hide ((unhide hb2').trans hb3)
      clear hb3
      go_wp2_with fail
      refine (unhide H4 _ _ (by simp; omega) hk3).mono ?_
      rintro e4' w4 ⟨rfl, hk4, hb4⟩
      replace hk4 := hide hk4
      have hb4' : Hid (Below wb w w4) := hide ((unhide hb3').trans hb4)
      clear hb4
      go_wp2
      go_end0
      exact ⟨rfl, by have := unhide hk4; simpa using this, unhide hb4'⟩
end
end Go.Proofs.YtnfaiaoipeholaaGreatDoor

namespace Go.Proofs.YtnfaiaoipeholaaGreatDoor
open Go.RowKit
section
variable {w : World} {wb b : Nat} {s u : ByteArray} {r x y q : Nat} {R X W : Tb} {T : List Int}

set_option maxHeartbeats 1000000 in
set_option maxRecDepth 1000000 in
theorem writeWithin_any (fx : Fix s u R X W) (g : Gram s) (ins : Ins s) {n : Nat} (hE : SaidP wb b s u r x y q R X W n) (hk : Wt w wb b s u r x y q R X W T) (pq aq eq : Int) (f a e : Nat) (hf : isF s f = true) (hl : cL (bt s f) = false) (hae : a ≤ e) (he : e ≤ u.size) (hv : fcC s u X W f a e ≤ 2000) (hn : fcC s u X W f a e ≤ n + 1) (hT : T.length + fcC s u X W f a e ≤ 4002) (e1 : pq = f) (e2 : aq = a) (e3 : eq = e) :
    Calls Tryz.prog 112 #[.pointer (some ⟨wb, 0, none⟩), .int .i64 pq, .int .i64 aq, .int .i64 eq] w (OutW wb b s u r x y q R X W w T (wrI s X W (wrE s u R X W n) f a e)) := by
  have hs300 := hk.ch.hs
  have hs' : s.size ≤ maxLen := by unfold maxLen; omega
  have hlt := isF_lt hf
  obtain ⟨hwi, hbg⟩ := wi_begs g ins hf hl
  have HS := hide (spot_any hk.ch pq f hlt e1)
  have hptr := hk.ptr
  have hwl := hk.lt
  have c0 := hk.ch.gram
  have hfd := Tryz.fld0 ((wi s f : Nat) : Int) ((bh s f : Nat) : Int) (pl (nx s f)) (begs s f)
  have HK := hide hk
  generalize hR : wrI s X W (wrE s u R X W n) f a e = L
  unfold wrI at hR
  unfold fcC at hv hn hT
  rw [if_neg (by simp [hl])] at hv hn hT
  subst e1 e2 e3
  clear hk
  cases h2 : cN (bt s f)
  · rw [if_neg (by simp [h2])] at hv hn hT
    by_cases h3 : bt s f = 91 ∨ bt s f = 123
    · have h3' : Hid (decide (bt s f = 91 ∨ bt s f = 123) = true) := hide (by simpa using h3)
      by_cases h4 : a = e
      · rw [if_pos ⟨h3, h4⟩] at hR
        subst hR h4
        clear h3 h2 hf hl hv hn hT hE
        go_enter Tryz.func112, Tryz.ntmps112
        go_wp2_with (first
          | (go_at_call 87; refine (at_any _ _ _ hs').mono ?_; rintro e w' ⟨rfl, hw⟩; replace hw := hw.symm; subst hw)
          | (go_at_call 107; refine (unhide HS).mono ?_; rintro e w1 ⟨rfl, hb1⟩; have hk1 := hide ((unhide HK).below hb1); replace hb1 := hide hb1; unfold spV)
          | (go_at_call 109; refine (mayBeEmpty_any _ _).mono ?_; rintro e w' ⟨rfl, hw⟩; replace hw := hw.symm; subst hw; rw [unhide h3'])
          | fail)
        go_end0
        exact ⟨rfl, by rw [List.append_nil]; exact unhide hk1, (unhide hb1).mono (Nat.le_of_lt hwl)⟩
      · rw [if_neg (fun e => h4 e.2)] at hR hv hn hT
        have h4' : ((a : Int) == (e : Int)) = false := by simp; omega
        clear h3 h2 hf hl
        by_cases h5 : bt s f = 123 ∨ bt s f = 60
        · have h5' : Hid (decide (bt s f = 123 ∨ bt s f = 60) = true) := hide (by simpa using h5)
          rw [if_pos h5] at hR hv hn hT
          have HL := hide (fun (w1 : World) (wq : Int) (h1 : Wt w1 wb b s u r x y q R X W T) (ew : wq = (wi s f : Nat)) => writeRow_any fx g ins hE (wi s f) hwi hbg (e - a + 1) wq a e a e T w1 h1 ew rfl rfl (by omega) hae he (by omega) (by omega) (by omega))
          rw [hR] at HL
          clear h5 hR hv hn hT hE
          generalize hwif : wi s f = wif at *
          go_enter Tryz.func112, Tryz.ntmps112
          go_wp2_with (first
            | (go_at_call 87; refine (at_any _ _ _ hs').mono ?_; rintro e w' ⟨rfl, hw⟩; replace hw := hw.symm; subst hw)
            | (go_at_call 107; refine (unhide HS).mono ?_; rintro e w1 ⟨rfl, hb1⟩; have hk1 := hide ((unhide HK).below hb1); replace hb1 := hide hb1; unfold spV)
            | (go_at_call 109; refine (mayBeEmpty_any _ _).mono ?_; rintro e w' ⟨rfl, hw⟩; replace hw := hw.symm; subst hw; rw [unhide h3'])
            | (go_at_call 110; refine (isList_any _ _).mono ?_; rintro e w' ⟨rfl, hw⟩; replace hw := hw.symm; subst hw; rw [unhide h5'])
            | fail)
          refine (unhide HL _ _ (unhide hk1) (by first | rfl | rw [hwif])).mono ?_
          rintro e2' w2 ⟨rfl, hk2, hb2⟩
          replace hk2 := hide hk2
          have hb2' : Hid (Below wb w w2) := hide (((unhide hb1).mono (Nat.le_of_lt hwl)).trans hb2)
          clear hb2
          go_wp2
          go_end0
          exact ⟨rfl, unhide hk2, unhide hb2'⟩
        · have h5' : Hid (decide (bt s f = 123 ∨ bt s f = 60) = false) := hide (by simpa using h5)
          rw [if_neg h5] at hR hv hn hT
          have HX := hide (fun (w1 : World) (wq : Int) (h1 : Wt w1 wb b s u r x y q R X W T) (ew : wq = (wi s f : Nat)) => hE wq a e (wi s f) a e T w1 h1 ew rfl rfl hwi hbg hae he (by omega) (by omega) (by omega))
          rw [hR] at HX
          clear h5 hR hv hn hT hE
          generalize hwif : wi s f = wif at *
          go_enter Tryz.func112, Tryz.ntmps112
          go_wp2_with (first
            | (go_at_call 87; refine (at_any _ _ _ hs').mono ?_; rintro e w' ⟨rfl, hw⟩; replace hw := hw.symm; subst hw)
            | (go_at_call 107; refine (unhide HS).mono ?_; rintro e w1 ⟨rfl, hb1⟩; have hk1 := hide ((unhide HK).below hb1); replace hb1 := hide hb1; unfold spV)
            | (go_at_call 109; refine (mayBeEmpty_any _ _).mono ?_; rintro e w' ⟨rfl, hw⟩; replace hw := hw.symm; subst hw; rw [unhide h3'])
            | (go_at_call 110; refine (isList_any _ _).mono ?_; rintro e w' ⟨rfl, hw⟩; replace hw := hw.symm; subst hw; rw [unhide h5'])
            | fail)
          refine (unhide HX _ _ (unhide hk1) (by first | rfl | rw [hwif])).mono ?_
          rintro e2' w2 ⟨rfl, hk2, hb2⟩
          replace hk2 := hide hk2
          have hb2' : Hid (Below wb w w2) := hide (((unhide hb1).mono (Nat.le_of_lt hwl)).trans hb2)
          clear hb2
          go_wp2
          go_end0
          exact ⟨rfl, unhide hk2, unhide hb2'⟩
    · have h3' : Hid (decide (bt s f = 91 ∨ bt s f = 123) = false) := hide (by simpa using h3)
      rw [if_neg (fun e => h3 e.1)] at hR hv hn hT
      clear h3 h2 hf hl
      by_cases h5 : bt s f = 123 ∨ bt s f = 60
      · have h5' : Hid (decide (bt s f = 123 ∨ bt s f = 60) = true) := hide (by simpa using h5)
        rw [if_pos h5] at hR hv hn hT
        have HL := hide (fun (w1 : World) (wq : Int) (h1 : Wt w1 wb b s u r x y q R X W T) (ew : wq = (wi s f : Nat)) => writeRow_any fx g ins hE (wi s f) hwi hbg (e - a + 1) wq a e a e T w1 h1 ew rfl rfl (by omega) hae he (by omega) (by omega) (by omega))
        rw [hR] at HL
        clear h5 hR hv hn hT hE
        generalize hwif : wi s f = wif at *
        go_enter Tryz.func112, Tryz.ntmps112
        go_wp2_with (first
          | (go_at_call 87; refine (at_any _ _ _ hs').mono ?_; rintro e w' ⟨rfl, hw⟩; replace hw := hw.symm; subst hw)
          | (go_at_call 107; refine (unhide HS).mono ?_; rintro e w1 ⟨rfl, hb1⟩; have hk1 := hide ((unhide HK).below hb1); replace hb1 := hide hb1; unfold spV)
          | (go_at_call 109; refine (mayBeEmpty_any _ _).mono ?_; rintro e w' ⟨rfl, hw⟩; replace hw := hw.symm; subst hw; rw [unhide h3'])
          | (go_at_call 110; refine (isList_any _ _).mono ?_; rintro e w' ⟨rfl, hw⟩; replace hw := hw.symm; subst hw; rw [unhide h5'])
          | fail)
        refine (unhide HL _ _ (unhide hk1) (by first | rfl | rw [hwif])).mono ?_
        rintro e2' w2 ⟨rfl, hk2, hb2⟩
        replace hk2 := hide hk2
        have hb2' : Hid (Below wb w w2) := hide (((unhide hb1).mono (Nat.le_of_lt hwl)).trans hb2)
        clear hb2
        go_wp2
        go_end0
        exact ⟨rfl, unhide hk2, unhide hb2'⟩
      · have h5' : Hid (decide (bt s f = 123 ∨ bt s f = 60) = false) := hide (by simpa using h5)
        rw [if_neg h5] at hR hv hn hT
        have HX := hide (fun (w1 : World) (wq : Int) (h1 : Wt w1 wb b s u r x y q R X W T) (ew : wq = (wi s f : Nat)) => hE wq a e (wi s f) a e T w1 h1 ew rfl rfl hwi hbg hae he (by omega) (by omega) (by omega))
        rw [hR] at HX
        clear h5 hR hv hn hT hE
        generalize hwif : wi s f = wif at *
        go_enter Tryz.func112, Tryz.ntmps112
        go_wp2_with (first
          | (go_at_call 87; refine (at_any _ _ _ hs').mono ?_; rintro e w' ⟨rfl, hw⟩; replace hw := hw.symm; subst hw)
          | (go_at_call 107; refine (unhide HS).mono ?_; rintro e w1 ⟨rfl, hb1⟩; have hk1 := hide ((unhide HK).below hb1); replace hb1 := hide hb1; unfold spV)
          | (go_at_call 109; refine (mayBeEmpty_any _ _).mono ?_; rintro e w' ⟨rfl, hw⟩; replace hw := hw.symm; subst hw; rw [unhide h3'])
          | (go_at_call 110; refine (isList_any _ _).mono ?_; rintro e w' ⟨rfl, hw⟩; replace hw := hw.symm; subst hw; rw [unhide h5'])
          | fail)
        refine (unhide HX _ _ (unhide hk1) (by first | rfl | rw [hwif])).mono ?_
        rintro e2' w2 ⟨rfl, hk2, hb2⟩
        replace hk2 := hide hk2
        have hb2' : Hid (Below wb w w2) := hide (((unhide hb1).mono (Nat.le_of_lt hwl)).trans hb2)
        clear hb2
        go_wp2
        go_end0
        exact ⟨rfl, unhide hk2, unhide hb2'⟩
  · have hvn : 65 ≤ bt s f ∧ bt s f ≤ 90 := by simpa [cN] using h2
    rw [if_pos h2] at hv hn hT
    have h3' : Hid (decide (bt s f = 91 ∨ bt s f = 123) = false) := hide (by simp; omega)
    have h5' : Hid (decide (bt s f = 123 ∨ bt s f = 60) = false) := hide (by simp; omega)
    rw [if_neg (by omega), if_neg (by omega)] at hR
    have HX := hide (fun (w1 : World) (wq : Int) (h1 : Wt w1 wb b s u r x y q R X W T) (ew : wq = (wi s f : Nat)) => hE wq a e (wi s f) a e T w1 h1 ew rfl rfl hwi hbg hae he (by omega) (by omega) (by omega))
    rw [hR] at HX
    clear hR hv hn hT hE h2 hf hl hvn
    generalize hwif : wi s f = wif at *
    go_enter Tryz.func112, Tryz.ntmps112
    go_wp2_with (first
      | (go_at_call 87; refine (at_any _ _ _ hs').mono ?_; rintro e w' ⟨rfl, hw⟩; replace hw := hw.symm; subst hw)
      | (go_at_call 107; refine (unhide HS).mono ?_; rintro e w1 ⟨rfl, hb1⟩; have hk1 := hide ((unhide HK).below hb1); replace hb1 := hide hb1; unfold spV)
      | (go_at_call 109; refine (mayBeEmpty_any _ _).mono ?_; rintro e w' ⟨rfl, hw⟩; replace hw := hw.symm; subst hw; rw [unhide h3'])
      | (go_at_call 110; refine (isList_any _ _).mono ?_; rintro e w' ⟨rfl, hw⟩; replace hw := hw.symm; subst hw; rw [unhide h5'])
      | fail)
    refine (unhide HX _ _ (unhide hk1) (by first | rfl | rw [hwif])).mono ?_
    rintro e2' w2 ⟨rfl, hk2, hb2⟩
    replace hk2 := hide hk2
    have hb2' : Hid (Below wb w w2) := hide (((unhide hb1).mono (Nat.le_of_lt hwl)).trans hb2)
    clear hb2
    go_wp2
    go_end0
    exact ⟨rfl, unhide hk2, unhide hb2'⟩

set_option maxHeartbeats 1000000 in
set_option maxRecDepth 1000000 in
theorem writeFactor_any (fx : Fix s u R X W) (g : Gram s) (ins : Ins s) {n : Nat} (hE : SaidP wb b s u r x y q R X W n) (hk : Wt w wb b s u r x y q R X W T) (pq aq eq : Int) (f a e : Nat) (hf : isF s f = true) (hae : a ≤ e) (he : e ≤ u.size) (hv : fcC s u X W f a e ≤ 2000) (hn : fcC s u X W f a e ≤ n + 1) (hT : T.length + fcC s u X W f a e ≤ 4000) (e1 : pq = f) (e2 : aq = a) (e3 : eq = e) :
    Calls Tryz.prog 61 #[.pointer (some ⟨wb, 0, none⟩), .int .i64 pq, .int .i64 aq, .int .i64 eq] w (OutW wb b s u r x y q R X W w T (wrF s X W (wrE s u R X W n) f a e)) := by
  have hs300 := hk.ch.hs
  have hs' : s.size ≤ maxLen := by unfold maxLen; omega
  have hptr := hk.ptr
  have c0 := hk.ch.gram
  have HK := hide hk
  have hlen := (wrF_ok (t := s) (N := n) fx g ins (Nat.le_refl _) (wrE_ok fx g ins n) hf hae he hv hn).len
  have HT0 : T.length ≤ 4000 := by omega
  unfold wrF at hlen ⊢
  subst e1 e2 e3
  cases h2 : cN (bt s f)
  · rw [if_neg (by simp [h2])] at hlen ⊢
    have h2' := hide h2
    cases h3 : cO (bt s f)
    · rw [if_neg (by simp)]
      have h3' := hide h3
      clear h2 h3 hf hv hn hT hE hk hlen
      go_enter Tryz.func61, Tryz.ntmps61
      go_wp2_with (first
        | (go_at_call 87; refine (at_any _ _ _ hs').mono ?_; rintro e w' ⟨rfl, hw⟩; replace hw := hw.symm; subst hw)
        | (go_at_call 111; refine (wwrite_any (unhide HK) (by omega) _).mono ?_; rintro e w1 ⟨rfl, hk1, hb1⟩; replace hk1 := hide hk1; replace hb1 := hide hb1)
        | (go_at_call 86; refine (isName_any _ _).mono ?_; rintro e w' ⟨rfl, hw⟩; replace hw := hw.symm; subst hw; rw [unhide h2'])
        | (go_at_call 92; refine (isOpening_any _ _).mono ?_; rintro e w' ⟨rfl, hw⟩; replace hw := hw.symm; subst hw; rw [unhide h3']))
      go_end0
      exact ⟨rfl, unhide hk1, unhide hb1⟩
    · rw [if_pos h3] at hlen
      rw [if_pos rfl]
      have hl : cL (bt s f) = false := by
        have := cO_vals h3; simp [cL]; omega
      have h3' := hide h3
      have HI := hide (fun (w1 : World) (T1 : List Int) (hT1 : T1.length = T.length + 1) (h1 : Wt w1 wb b s u r x y q R X W T1) => writeWithin_any fx g ins hE h1 f a e f a e hf hl hae he hv hn (by omega) rfl rfl rfl)
      generalize wrI s X W (wrE s u R X W n) f a e = L at *
      simp only [List.length_cons, List.length_append, List.length_nil] at hlen
      clear h2 h3 hf hE hk hv hn hl
      generalize fcC s u X W f a e = v at *
      go_enter Tryz.func61, Tryz.ntmps61
      go_wp2_with (first
        | (go_at_call 87; refine (at_any _ _ _ hs').mono ?_; rintro e w' ⟨rfl, hw⟩; replace hw := hw.symm; subst hw)
        | fail)
      refine (wwrite_any (unhide HK) (by omega) _).mono ?_
      rintro e1' w1 ⟨rfl, hk1, hb1⟩
      replace hk1 := hide hk1
      replace hb1 := hide hb1
      go_wp2_with (first
        | (go_at_call 86; refine (isName_any _ _).mono ?_; rintro e w' ⟨rfl, hw⟩; replace hw := hw.symm; subst hw; rw [unhide h2'])
        | (go_at_call 92; refine (isOpening_any _ _).mono ?_; rintro e w' ⟨rfl, hw⟩; replace hw := hw.symm; subst hw; rw [unhide h3'])
        | fail)
      refine (unhide HI _ _ (by simp) (unhide hk1)).mono ?_
      rintro e2' w2 ⟨rfl, hk2, hb2⟩
      replace hk2 := hide hk2
      have hb2' : Hid (Below wb w w2) := hide ((unhide hb1).trans hb2)
      clear hb2
      go_wp2_with (first
        | (go_at_call 113; refine (closing_any _ _).mono ?_; rintro e w' ⟨rfl, hw⟩; replace hw := hw.symm; subst hw)
        | fail)
      refine (wwrite_any (unhide hk2) (by simp; omega) _).mono ?_
      rintro e3' w3 ⟨rfl, hk3, hb3⟩
      replace hk3 := hide hk3
      have hb3' : Hid (Below wb w w3) := hide ((unhide hb2').trans hb3)
      clear hb3
      go_wp2
      go_end0
      exact ⟨rfl, by have := unhide hk3; simpa using this, unhide hb3'⟩
  · rw [if_pos h2] at hlen
    rw [if_pos rfl]
    have hvn : 65 ≤ bt s f ∧ bt s f ≤ 90 := by simpa [cN] using h2
    have hl : cL (bt s f) = false := by simp [cL]; omega
    have h3' : Hid (cO (bt s f) = false) := hide (by
      cases e : cO (bt s f)
      · rfl
      · have := cO_vals e; omega)
    have h2' := hide h2
    have HI := hide (fun (w1 : World) (T1 : List Int) (hT1 : T1.length = T.length + 2) (h1 : Wt w1 wb b s u r x y q R X W T1) => writeWithin_any fx g ins hE h1 f a e f a e hf hl hae he hv hn (by omega) rfl rfl rfl)
    generalize wrI s X W (wrE s u R X W n) f a e = L at *
    simp only [List.length_cons, List.length_append, List.length_nil] at hlen
    clear h2 hf hE hk hv hn hl hvn
    generalize fcC s u X W f a e = v at *
    go_enter Tryz.func61, Tryz.ntmps61
    go_wp2_with (first
      | (go_at_call 87; refine (at_any _ _ _ hs').mono ?_; rintro e w' ⟨rfl, hw⟩; replace hw := hw.symm; subst hw)
      | fail)
    refine (wwrite_any (unhide HK) (by omega) _).mono ?_
    rintro e1' w1 ⟨rfl, hk1, hb1⟩
    replace hk1 := hide hk1
    replace hb1 := hide hb1
    go_wp2_with (first
      | (go_at_call 86; refine (isName_any _ _).mono ?_; rintro e w' ⟨rfl, hw⟩; replace hw := hw.symm; subst hw; rw [unhide h2'])
      | fail)
    refine (wwrite_any (unhide hk1) (by simp; omega) 40).mono ?_
    rintro e1' w1b ⟨rfl, hk1b, hb1b⟩
    replace hk1b := hide hk1b
    have hb1b' : Hid (Below wb w w1b) := hide ((unhide hb1).trans hb1b)
    clear hb1b
    go_wp2_with fail
    refine (unhide HI _ _ (by simp) (unhide hk1b)).mono ?_
    rintro e2' w2 ⟨rfl, hk2, hb2⟩
    replace hk2 := hide hk2
    have hb2' : Hid (Below wb w w2) := hide ((unhide hb1b').trans hb2)
    clear hb2
    go_wp2_with fail
    refine (wwrite_any (unhide hk2) (by simp; omega) 41).mono ?_
    rintro e3' w3 ⟨rfl, hk3, hb3⟩
    replace hk3 := hide hk3
    have hb3' : Hid (Below wb w w3) := hide ((unhide hb2').trans hb3)
    clear hb3
    go_wp2_with (first
      | (go_at_call 92; refine (isOpening_any _ _).mono ?_; rintro e w' ⟨rfl, hw⟩; replace hw := hw.symm; subst hw; rw [unhide h3']))
    go_end0
    exact ⟨rfl, by have := unhide hk3; simpa using this, unhide hb3'⟩
end
end Go.Proofs.YtnfaiaoipeholaaGreatDoor

namespace Go.Proofs.YtnfaiaoipeholaaGreatDoor
open Go.RowKit
section
variable {wb b : Nat} {s u : ByteArray} {r x y q : Nat} {R X W : Tb}
theorem wrFs_yes {g : Nat → Nat → Nat → List Int} {p a e k v : Nat} (hf : isF s p = true) (h : rsC s u R X W p a e = (v, k)) : wrFs s u R X W g (fe s p).1 a e = g p a k ++ wrFs s u R X W g (fe s (bh s p)).1 k e := by
  rw [fe_yes hf]
  conv => lhs; unfold wrFs
  rw [h]
theorem wrFs_no {g : Nat → Nat → Nat → List Int} {p a e : Nat} (hf : isF s p = false) : wrFs s u R X W g (fe s p).1 a e = [] := by
  rw [fe_no hf]; rfl
/-- factors while they are written -/
structure Wl (s u : ByteArray) (R X W : Tb) (n : Nat) (T L0 L : List Int) (k a e : Nat) : Prop where
  rest : L ++ wrFs s u R X W (wrF s X W (wrE s u R X W n)) (fe s k).1 a e = L0
  ae : a ≤ e
  lt : k < s.size
  r1 : R k a e ≤ 2000
  r2 : R k a e ≤ n
  len : T.length + L.length + R k a e ≤ 4000
theorem Wl.step (fx : Fix s u R X W) (g : Gram s) (ins : Ins s) {n k a e v : Nat} {T L0 L : List Int} (h : Wl s u R X W n T L0 L k a e) (he : e ≤ u.size) (hf : isF s k = true) {k' : Nat} (hr : rsC s u R X W k a e = (v, k')) :
    a ≤ k' ∧ k' ≤ e ∧ fcC s u X W k a k' ≤ 2000 ∧ fcC s u X W k a k' ≤ n + 1 ∧ T.length + L.length + fcC s u X W k a k' ≤ 4000 ∧ Wl s u R X W n T L0 (L ++ wrF s X W (wrE s u R X W n) k a k') (bh s k) k' e := by
  have hR := (fx.fix a e h.ae he).rest k h.lt
  have h1 := h.r1
  have h2 := h.r2
  have h3 := h.len
  have hin := ins.beh k hf
  obtain ⟨j, q1, q2, q3⟩ := rsC_cases (u := u) (R := R) (X := X) (W := W) (a := a) (b := e) hf (by omega)
  rw [hr] at q3
  injection q3 with q4 q5
  subst q5
  rw [hr] at hR
  simp only at hR
  have hlen := (wrF_ok (t := s) (N := n) fx g ins (Nat.le_refl _) (wrE_ok fx g ins n) hf q1 (by omega) (by omega) (by omega)).len
  refine ⟨q1, q2, by omega, by omega, by omega, ?_, q2, hin, by omega, by omega, ?_⟩
  · rw [List.append_assoc, ← wrFs_yes hf hr]; exact h.rest
  · rw [List.length_append, hlen]; omega

set_option maxHeartbeats 1000000 in
set_option maxRecDepth 1000000 in
theorem writeExpression_step (fx : Fix s u R X W) (g : Gram s) (ins : Ins s) {n : Nat} (hE : SaidP wb b s u r x y q R X W n) : SaidP wb b s u r x y q R X W (n + 1) := by
  intro xq aq eq p a e T w hk e1 e2 e3 hp hb hae he h1 h2 h3
  have hs300 := hk.ch.hs
  have hX := (fx.fix a e hae he).expr p hp hb
  obtain ⟨k, z, k1, k2, k3⟩ := exC_cases (s := s) (R := R) (x := p) (a := a) (b := e) (by omega)
  have hk9 : k ≤ 9 := by
    have q1 : k < (sts s p).length := by
      rw [sts_ap] at k1; exact (List.getElem?_eq_some_iff.1 k1).1
    have q2 := ins.few p hb
    omega
  have hz : z < s.size := ap_ins ins hp k1
  have H1 := hide (cexp_any ins fx.toNrm hk.ch xq aq eq p a e hp hb (by omega) he e1 e2 e3)
  have hL : wrE s u R X W (n + 1) p a e = (48 + (k : Int)) :: wrFs s u R X W (wrF s X W (wrE s u R X W n)) (fe s z).1 a e := by
    conv => lhs; unfold wrE
    rw [k3]; simp only; rw [k2]
  rw [hL]
  rw [k3] at H1 hX
  simp only at hX
  have HW : Hid (Wl s u R X W n (T ++ [48 + (k : Int)]) (wrFs s u R X W (wrF s X W (wrE s u R X W n)) (fe s z).1 a e) [] z a e) := hide ⟨rfl, hae, hz, by omega, by omega, by simp; omega⟩
  have HA := hide (fun w => alternative_any s xq k p k w hs300 e1 rfl (by omega) (by omega))
  rw [k1] at HA
  generalize wrFs s u R X W (wrF s X W (wrE s u R X W n)) (fe s z).1 a e = L0 at *
  have hptr := hk.ptr
  have hwl := hk.lt
  have HK := hide hk
  have HE := hide hE
  have HFX := hide fx
  have hTl : T.length ≤ 4000 := by omega
  subst e1 e2 e3
  clear hE hk fx hL k1 k2 k3 hX h1 h2 h3
  generalize hPost : OutW wb b s u r x y q R X W w T ((48 + (k : Int)) :: L0) = Post
  have HP := hide hPost
  clear hPost
  go_enter Tryz.func147, Tryz.ntmps147
  go_wp2_with fail
  refine (unhide H1).mono ?_
  rintro e1' w1 ⟨rfl, hb1⟩
  have hk1 := hide ((unhide HK).below hb1)
  replace hb1 := hide hb1
  unfold two
  go_wp2_with fail
  refine (wwrite_any (unhide hk1) (by omega) _).mono ?_
  rintro e2' w2 ⟨rfl, hk2, hb2⟩
  replace hk2 := hide hk2
  have hb2' : Hid (Below wb w w2) := hide (((unhide hb1).mono (Nat.le_of_lt hwl)).trans hb2)
  clear hb2
  have hptr2 := (unhide hk2).ptr
  have hg2 := (unhide hk2).ch.gram
  go_wp2_with fail
  refine (unhide HA _).mono ?_
  rintro e3' w3 ⟨rfl, hw3⟩
  replace hw3 := hw3.symm
  subst hw3
  go_wp2_with fail
  clear HA H1 HK hk1 hb1 hptr hptr2 hg2
  generalize hDD : T ++ [48 + (k : Int)] = T1 at *
  have HD := hide hDD
  clear hDD
  go_loopw [2, 10] (fun fv pv wr => ∃ (a1 z1 : Nat) (L : List Int), fv = .int .i64 a1 ∧ pv = .int .i64 z1 ∧ z1 < s.size ∧ a1 ≤ e ∧ Hid (Wl s u R X W n T1 L0 L z1 a1 e) ∧ Hid (Wt wr wb b s u r x y q R X W (T1 ++ L)) ∧ Hid (Below wb w wr)) (fun _ pv _ => s.size - (intOf pv).toNat)
  case atStart => exact ⟨a, z, [], rfl, rfl, hz, hae, HW, hide (by rw [List.append_nil]; exact unhide hk2), hb2'⟩
  case round =>
    obtain ⟨a1, z1, L, rfl, rfl, hz1, ha1, hI, hC, hB⟩ := hrel
    have hptr := (unhide hC).ptr
    have hwl3 := (unhide hC).lt
    have hg3 := (unhide hC).ch.gram
    clear HW hk2 hb2'
    cases hf : isF s z1
    · have hf' := hide hf
      have hend : Hid (L = L0) := hide (by have := (unhide hI).rest; rw [wrFs_no hf, List.append_nil] at this; exact this)
      clear hf hI
      go_wp2_with (first
        | (go_at_call 168; refine (isFactor_any _ _ z1 _ hs300 rfl).mono ?_; rintro e w' ⟨rfl, hw⟩; replace hw := hw.symm; subst hw; rw [unhide hf']))
      go_end0
      rw [← unhide HP]
      refine ⟨rfl, ?_, unhide hB⟩
      have := unhide hC
      rw [unhide hend, ← unhide HD] at this
      simpa using this
    · have hf' := hide hf
      have hbh := bh_bd hf
      have hin := ins.beh z1 hf
      have H1 := hide (rest_any g ins (unhide HFX).toNrm (unhide hC).ch z1 a1 e z1 a1 e hz1 ha1 he rfl rfl rfl)
      generalize hV : rsC s u R X W z1 a1 e = V at *
      obtain ⟨v, a2⟩ := V
      obtain ⟨s1, s2, s3, s4, s5, s6⟩ := (unhide hI).step (unhide HFX) g ins he hf hV
      have H2 := hide (fun w1 h1' => writeFactor_any (unhide HFX) g ins (unhide HE) (w := w1) (T := T1 ++ L) h1' z1 a1 a2 z1 a1 a2 hf s1 (by omega) s3 s4 (by simp; omega) rfl rfl rfl)
      have H3 := hide (fun w1 (h1' : Ch w1 b s u r x y q R X W) => spot_any h1' z1 z1 hz1 rfl)
      have hfd := Tryz.fld1 ((wi s z1 : Nat) : Int) ((bh s z1 : Nat) : Int) (pl (nx s z1)) (begs s z1)
      have HS6 := hide s6
      generalize wrF s X W (wrE s u R X W n) z1 a1 a2 = L1 at *
      clear hf hI hV s3 s4 s5 s6
      go_wp2_with (first
        | (go_at_call 168; refine (isFactor_any _ _ z1 _ hs300 rfl).mono ?_; rintro e w' ⟨rfl, hw⟩; replace hw := hw.symm; subst hw; rw [unhide hf'])
        | fail)
      refine (unhide H1).mono ?_
      rintro e4' w4 ⟨rfl, hb4⟩
      have hk4 := hide ((unhide hC).below hb4)
      have hb4' : Hid (Below wb w w4) := hide ((unhide hB).trans (hb4.mono (Nat.le_of_lt hwl3)))
      clear hb4
      unfold two
      go_wp2_with fail
      refine (unhide H2 _ (unhide hk4)).mono ?_
      rintro e5' w5 ⟨rfl, hk5, hb5⟩
      have hptr5 := hk5.ptr
      have hwl5 := hk5.lt
      replace hk5 := hide hk5
      have hb5' : Hid (Below wb w w5) := hide ((unhide hb4').trans hb5)
      clear hb5
      go_wp2_with fail
      refine (unhide H3 _ (unhide hk5).ch).mono ?_
      rintro e6' w6 ⟨rfl, hb6⟩
      have hk6 := hide ((unhide hk5).below hb6)
      have hb6' : Hid (Below wb w w6) := hide ((unhide hb5').trans (hb6.mono (Nat.le_of_lt hwl5)))
      clear hb6
      unfold spV
      go_wp2
      go_roundw
      case rel => exact ⟨a2, bh s z1, L ++ L1, rfl, rfl, hin, s2, HS6, hide (by have := unhide hk6; simpa using this), hb6'⟩
      case measure => simp [intOf]; omega
theorem writeExpression_all (fx : Fix s u R X W) (g : Gram s) (ins : Ins s) : ∀ n, SaidP wb b s u r x y q R X W n
  | 0 => by
    intro xq aq eq p a e T w hk e1 e2 e3 hp hb hae he h1 h2 h3
    have hX := (fx.fix a e hae he).expr p hp hb
    obtain ⟨k, z, k1, k2, k3⟩ := exC_cases (s := s) (R := R) (x := p) (a := a) (b := e) (by omega)
    rw [k3] at hX
    simp only at hX
    omega
  | n + 1 => writeExpression_step fx g ins (writeExpression_all fx g ins n)
end
end Go.Proofs.YtnfaiaoipeholaaGreatDoor
