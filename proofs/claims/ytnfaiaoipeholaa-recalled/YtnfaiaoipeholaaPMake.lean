/- The program's maker: its small methods. -/
import Derived.Test.YtnfaiaoipeholaaPNew2
import Derived.Test.YtnfaiaoipeholaaCells
import Derived.Deep.AppendLies
namespace Go.Proofs.Ytnfaiaoipeholaa
open Go.RowKit

/-- bytes as cells -/
def byts (T : List Int) : List Value := T.map (Value.int .u8)
theorem byts_push (T : List Int) (c : Int) : byts (T ++ [c]) = byts T ++ [.int .u8 c] := by simp [byts]
/-- a maker in memory -/
structure Mk (w : World) (b : Nat) (s c : ByteArray) (m : Int) (P : Nat → Int) (a : Nat) (T : List Int) : Prop where
  gd : Gd w b s m P
  lt : b < w.heap.size
  chs : w.cell? ⟨b, 28, none⟩ = some (.string c)
  tak : w.cell? ⟨b, 29, none⟩ = some (.int .i64 a)
  tkf : w.frozen? ⟨b, 29, none⟩ = false
  tre : ∃ v, w.cell? ⟨b, 30, none⟩ = some v ∧ w.ownsRow (b + 1) 5 1 v T.length (byts T)
  trf : w.frozen? ⟨b, 30, none⟩ = false
theorem own_set {w : World} {b o n : Nat} {v u : Value} {t : TypeId} {xs : List Value} (h : w.ownsRow (b + 1) t 1 v n xs) : (w.setCell ⟨b, o, none⟩ u).ownsRow (b + 1) t 1 v n xs := by
  have hb : Below b w (w.setCell ⟨b, o, none⟩ u) := (Below.refl _ _).setCell (p := ⟨b, o, none⟩) (Nat.le_refl _) u
  refine h.kept (row := some b) ⟨hb.os, hb.tape, hb.output, hb.size, fun k hk hne => Below.heap_setCell w _ u k (fun e => hne (by rw [e]))⟩ ?_
  cases hv : v.ownBlock with
  | none => exact .inl rfl
  | some k =>
    have := (h.lt k hv).1
    exact .inr (fun e => by injection e with e; omega)
section
variable {w : World} {b : Nat} {s c : ByteArray} {m : Int} {P : Nat → Int} {a : Nat} {T : List Int}
theorem Mk.drew (h : Mk w b s c m P a T) : Mk w.drew b s c m P a T := ⟨⟨h.gd.gram, h.gd.most, h.gd.low⟩, h.lt, h.chs, h.tak, h.tkf, h.tre, h.trf⟩
theorem Mk.take (h : Mk w b s c m P a T) (x : Nat) : Mk (w.setCell ⟨b, 29, none⟩ (.int .i64 x)) b s c m P x T := by
  have ho : ∀ o, o ≠ 29 → (w.setCell ⟨b, 29, none⟩ (.int .i64 x)).cell? ⟨b, o, none⟩ = w.cell? ⟨b, o, none⟩ := fun o ho => World.cell?_setCell_other w _ _ _ (fun e => ho (by injection e with _ e; exact e.symm))
  obtain ⟨v, h1, h2⟩ := h.tre
  refine ⟨⟨(ho 0 (by omega)).trans h.gd.gram, (ho 1 (by omega)).trans h.gd.most, fun i hi => (ho _ (by omega)).trans (h.gd.low i hi)⟩, by simpa using h.lt, (ho 28 (by omega)).trans h.chs, World.cell?_setCell_same w _ _ h.tak, by rw [World.frozen?_setCell]; exact h.tkf, ⟨v, (ho 30 (by omega)).trans h1, own_set h2⟩, by rw [World.frozen?_setCell]; exact h.trf⟩

set_option maxHeartbeats 400000 in
theorem isBig_any (hm : Mk w b s c m P a T) (hT : T.length ≤ 10000) : Calls Try.prog 38 #[.pointer (some ⟨b, 0, none⟩)] w fun e w' => e = .returned (.bool (decide (2000 < T.length))) ∧ w' = w := by
  obtain ⟨v, h1, h2⟩ := hm.tre
  obtain ⟨a0, cap, hv⟩ : ∃ a0 cap, v = .slice a0 T.length cap := by
    rcases h2.2 with ⟨e, h0⟩ | ⟨g, cap, _, e, _⟩
    · exact ⟨none, 0, by rw [e, h0]⟩
    · exact ⟨_, cap, e⟩
  subst hv
  clear h2
  go_enter Try.func38, Try.ntmps38
  go_wp2
  go_ret; exact ⟨ret_bool (by simp only [decide_eq_decide]; omega), rfl⟩

set_option maxHeartbeats 400000 in
set_option maxRecDepth 1000000 in
theorem write_any (hm : Mk w b s c m P a T) (hT : T.length ≤ 10000) (x : Int) : Calls Try.prog 64 #[.pointer (some ⟨b, 0, none⟩), .int .u8 x] w fun e w' => e = .returned (.tuple #[]) ∧ Mk w' b s c m P a (T ++ [x]) ∧ Below b w w' := by
  obtain ⟨v, h1, h2⟩ := hm.tre
  obtain ⟨i1, hi1, hy0, hy1, hy2⟩ := info_parts Try.infoByte
  have h3 := hm.trf
  have HM := hide hm
  go_enter Try.func64, Try.ntmps64
  go_wp2_with (first | (at_builtin; refine wpList_append_lies _ rfl _ _ 45 rfl (b + 1) 5 i1 (.int .u8 0) 1 1 Try.underlying45 hi1 hy0 hy1 hy2 rfl (by decide) _ _ _ rfl (h2.alloc _) ⟨_, 0, none⟩ 1 1 [.int .u8 x] rfl rfl ?c1 ?c2 ?c3 ?c4 ?c5 ?c6 _ rfl ?_))
  case c1 => exact World.news_of_block (heap_alloc_new _ _)
  case c2 => intro u hu; simp at hu; subst hu; rfl
  case c3 => omega
  case c4 => unfold maxLen; omega
  case c5 => omega
  case c6 => have := hm.lt; simp; omega
  · intro g1 cap1 w3 hown3 hg3 hb3 hlt3
    have hbel : Below (b + 1) w w3 := ((Below.refl (b + 1) w).alloc (by have := hm.lt; omega) _).grown hg3 (by have := hm.lt; simp; omega) (fun j hj => (h2.lt j hj).1)
    have hc : ∀ o, w3.cell? ⟨b, o, none⟩ = w.cell? ⟨b, o, none⟩ := fun o => hbel.cell (p := ⟨b, o, none⟩) (Nat.lt_succ_self b)
    have hf : ∀ o, w3.frozen? ⟨b, o, none⟩ = w.frozen? ⟨b, o, none⟩ := fun o => hbel.frozen (p := ⟨b, o, none⟩) (Nat.lt_succ_self b)
    have k1 := (hc 30).trans h1
    have k2 := (hf 30).trans h3
    have HC := hide hc; have HF := hide hf; have HO := hide hown3; have HB := hide hbel
    clear hc hf hown3 hbel hg3 hb3
    go_wp2
    go_end0
    refine ⟨rfl, ?_, Below.setCell (B := b) ((unhide HB).mono (Nat.le_succ b)) (p := ⟨b, 30, none⟩) (Nat.le_refl b) _⟩
    have hm := unhide HM
    have ho : ∀ o, o ≠ 30 → (w3.setCell ⟨b, 30, none⟩ (.slice (some ⟨g1, 0, none⟩) (T.length + 1) cap1)).cell? ⟨b, o, none⟩ = w.cell? ⟨b, o, none⟩ := fun o ho => (World.cell?_setCell_other w3 _ _ _ (fun e => ho (by injection e with _ e; exact e.symm))).trans (unhide HC o)
    refine ⟨⟨(ho 0 (by omega)).trans hm.gd.gram, (ho 1 (by omega)).trans hm.gd.most, fun i hi => (ho _ (by omega)).trans (hm.gd.low i hi)⟩, ?_, (ho 28 (by omega)).trans hm.chs, (ho 29 (by omega)).trans hm.tak, by rw [World.frozen?_setCell]; exact (unhide HF 29).trans hm.tkf, ⟨_, World.cell?_setCell_same w3 _ _ k1, ?_⟩, by rw [World.frozen?_setCell]; exact k2⟩
    · have := hm.lt; have := (unhide HB).size; simp; omega
    · rw [byts_push]
      have := own_set (b := b) (o := 30) (u := .slice (some ⟨g1, 0, none⟩) (T.length + 1) cap1) (unhide HO)
      simpa using this

set_option maxHeartbeats 400000 in
theorem choose_any (hm : Mk w b s c m P a T) (hc : c.size ≤ maxLen) (ha : a ≤ 100000) (q : Int) (n : Nat) (hq : q = n) (hn : n ≤ 1000) : Calls Try.prog 98 #[.pointer (some ⟨b, 0, none⟩), .int .i64 q] w fun e w' => e = .returned (.int .i64 (wayN c a n)) ∧ Mk w' b s c m P (wayA a n) T ∧ Below b w w' := by
  subst hq
  have h1 := hm.chs
  have h2 := hm.tak
  have h3 := hm.tkf
  have HM := hide hm
  clear hm
  by_cases h : n < 2
  · have e1 : wayN c a n = 0 := by unfold wayN; rw [if_pos h]
    have e2 : wayA a n = a := by unfold wayA; rw [if_pos h]
    rw [e1, e2]
    clear e1 e2
    go_enter Try.func98, Try.ntmps98
    go_wp2
    go_ret; exact ⟨rfl, unhide HM, Below.refl _ _⟩
  · have e2 : wayA a n = a + 1 := by unfold wayA; rw [if_neg h]
    have HK := hide ((unhide HM).drew.take (a + 1))
    rw [e2]
    have HB : Hid (∀ u : Value, Below b w (w.drew.setCell ⟨b, 29, none⟩ u)) := hide (fun u => ((Below.refl _ _).drew).setCell (p := ⟨b, 29, none⟩) (Nat.le_refl _) u)
    have HK2 := hide ((unhide HM).take (a + 1)).drew
    have HB2 : Hid (∀ u : Value, Below b w (w.setCell ⟨b, 29, none⟩ u).drew) := hide (fun u => ((Below.refl _ _).setCell (p := ⟨b, 29, none⟩) (Nat.le_refl _) u).drew)
    clear e2
    cases hd : cD (bt c a)
    · have e1 : wayN c a n = 0 := by unfold wayN dig; rw [if_neg h, if_neg (by simp [hd])]; simp
      rw [e1]
      have HD := hide hd
      clear e1 hd
      go_enter Try.func98, Try.ntmps98
      go_wp2
      go_region_with (go_at_call 52; refine (at_any _ _ _ hc).mono ?_; rintro e w' ⟨rfl, rfl⟩)
      go_wp2_with (go_at_call 61; refine (isDigit_any _ _).mono ?_; rintro e w' ⟨rfl, rfl⟩; rw [unhide HD])
      all_goals (go_ret; exact ⟨rfl, by first | exact unhide HK | exact unhide HK2, by first | exact unhide HB _ | exact unhide HB2 _⟩)
    · have hv : 48 ≤ bt c a ∧ bt c a ≤ 57 := by simpa [cD] using hd
      obtain ⟨hv1, hv2⟩ := hv
      have e1 : (wayN c a n : Int) = (bt c a - 48) % n := by
        unfold wayN dig; rw [if_neg h, if_pos hd]
        have : ((bt c a - 48).toNat : Int) = bt c a - 48 := by omega
        rw [← this]; simp
      have hne : (n : Int) ≠ 0 := by omega
      rw [e1]
      have HD := hide hd
      clear e1 hd
      go_enter Try.func98, Try.ntmps98
      go_wp2
      go_region_with (go_at_call 52; refine (at_any _ _ _ hc).mono ?_; rintro e w' ⟨rfl, rfl⟩)
      go_wp2_with (go_at_call 61; refine (isDigit_any _ _).mono ?_; rintro e w' ⟨rfl, rfl⟩; rw [unhide HD])
      all_goals (go_ret; exact ⟨rfl, by first | exact unhide HK | exact unhide HK2, by first | exact unhide HB _ | exact unhide HB2 _⟩)
end
end Go.Proofs.Ytnfaiaoipeholaa
