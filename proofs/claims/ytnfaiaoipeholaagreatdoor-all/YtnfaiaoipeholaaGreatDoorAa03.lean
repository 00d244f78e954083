/- Inside RefChk ChecksPlays -/
import Derived.Test.YtnfaiaoipeholaaGreatDoorAa01
import Derived.Test.YtnfaiaoipeholaaGreatDoorAa02
import Derived.Deep.AppendLies
import Derived.Deep.QuietTactic
import Derived.BigQuiet
namespace Go.Proofs.YtnfaiaoipeholaaGreatDoor
open Go.RowKit

theorem Tryz.infoInt : (Tryz.prog.info? 3).map (fun i => (i.zero, i.size, i.bytes)) = some (some (.int .i64 0), 1, 8) := by kernel_rfl

/-- two slices of the call's own: the brackets that are to close, the alternatives -/
structure Two (w : World) (B : Nat) (vo va : Value) (op al : List Int) : Prop where
  o : w.ownsRow B 5 1 vo op.length (op.map (Value.int .u8))
  a : w.ownsRow B 3 1 va al.length (al.map (Value.int .i64))
  ne : vo.ownBlock = none ∨ vo.ownBlock ≠ va.ownBlock

theorem Two.formA {w : World} {B : Nat} {vo va : Value} {op al : List Int} (h : Two w B vo va op al) (hl : al.length = op.length + 1) :
    ∃ g cap, va = .slice (some ⟨g, 0, none⟩) (op.length + 1) cap ∧ B ≤ g ∧ g < w.heap.size := by
  have := h.a; rw [hl] at this
  exact this.form (by omega)
theorem Two.formO {w : World} {B : Nat} {vo va : Value} {op al : List Int} (h : Two w B vo va op al) :
    ∃ ao cap, vo = .slice ao op.length cap := by
  rcases h.o.2 with ⟨h1, h2⟩ | ⟨g, cap, cur, hv, _⟩
  · exact ⟨none, 0, by rw [h1, h2]⟩
  · exact ⟨_, cap, hv⟩

/-- what it answers -/
def Ans (w : World) (B : Nat) (r : Int × List Int × List Int) (e : Ending) (w' : World) : Prop :=
  ∃ vo va, e = .returned (.tuple #[vo, va, .int .i64 r.1]) ∧ Below B w w' ∧ Two w' B vo va r.2.1 r.2.2

theorem stp_mst {c : Int} {op al : List Int} {r : Int × Int × List Int × List Int} (h : mst c 2 op al = r) (h59 : ¬ (c = 59 ∧ op = [])) : stp c op al = (r.1, r.2.2) := by
  subst h; unfold mst; rw [if_neg (by omega), if_neg (by omega), if_neg h59]

set_option maxHeartbeats 400000 in
theorem inside_plain {B : Nat} {vo va : Value} {op al : List Int} (c : Int) (w : World) (h : Two w B vo va op al) (hi : Inv 2 op al) (hc : (cL c || cN c) = true) :
    Calls Tryz.prog 67 #[.int .u8 c, vo, va] w fun e w' => Ans w B (stp c op al) e w' := by
  rw [stp_mst (mst_plain hc) (by rintro ⟨rfl, _⟩; simp [cL, cN] at hc)]
  obtain ⟨ga, ca, rfl, hga, hga2⟩ := h.formA (hi.2.2.2.2.2.1 rfl)
  obtain ⟨ao, co, rfl⟩ := h.formO
  have H := hide h; clear h
  by_cases hl : cL c = true
  · have hl' := hide hl; clear hl hc
    go_enter Tryz.func67, Tryz.ntmps67
    go_wp2_with (first | (go_at_call 78; refine (letter_any _ _).mono ?_; rintro e w' ⟨rfl, rfl⟩; rw [unhide hl']) | (go_at_call 31; refine (name_any _ _).mono ?_; rintro e w' ⟨rfl, rfl⟩) | (go_at_call 74; refine (rclosing_any _ _).mono ?_; rintro e w' ⟨rfl, rfl⟩))
    go_ret3; exact ⟨_, _, rfl, Below.refl _ _, unhide H⟩
  · have hl1 : cL c = false := by simpa using hl
    have hn' : Hid (cN c = true) := hide (by simpa [hl1] using hc)
    have hl' := hide hl1; clear hl hc hl1
    go_enter Tryz.func67, Tryz.ntmps67
    go_wp2_with (first | (go_at_call 78; refine (letter_any _ _).mono ?_; rintro e w' ⟨rfl, rfl⟩; rw [unhide hl']) | (go_at_call 31; refine (name_any _ _).mono ?_; rintro e w' ⟨rfl, rfl⟩; rw [unhide hn']) | (go_at_call 74; refine (rclosing_any _ _).mono ?_; rintro e w' ⟨rfl, rfl⟩))
    go_ret3; exact ⟨_, _, rfl, Below.refl _ _, unhide H⟩

theorem open_facts {c : Int} (h : cO c = true) : cL c = false ∧ cN c = false ∧ (cC c != 0) = true := by
  rcases cO_vals h with rfl | rfl | rfl | rfl <;> decide

set_option maxHeartbeats 400000 in
theorem inside_deep {B : Nat} {vo va : Value} {op al : List Int} (c : Int) (w : World) (h : Two w B vo va op al) (hi : Inv 2 op al) (hc : cO c = true) (hd : 5 ≤ op.length) :
    Calls Tryz.prog 67 #[.int .u8 c, vo, va] w fun e w' => Ans w B (stp c op al) e w' := by
  rw [stp_mst (mst_open hc) (by rintro ⟨rfl, _⟩; simp [cO, cC] at hc), if_pos hd]
  obtain ⟨ga, ca, rfl, hga, hga2⟩ := h.formA (hi.2.2.2.2.2.1 rfl)
  obtain ⟨ao, co, rfl⟩ := h.formO
  have H := hide h; clear h
  obtain ⟨h1, h2, h3⟩ := open_facts hc
  have hl' := hide h1; have hn' := hide h2; clear h1 h2 hc
  have hd' : (5 : Int) ≤ op.length := by omega
  go_enter Tryz.func67, Tryz.ntmps67
  go_wp2_with (first | (go_at_call 78; refine (letter_any _ _).mono ?_; rintro e w' ⟨rfl, rfl⟩; rw [unhide hl']) | (go_at_call 31; refine (name_any _ _).mono ?_; rintro e w' ⟨rfl, rfl⟩; rw [unhide hn']) | (go_at_call 74; refine (rclosing_any _ _).mono ?_; rintro e w' ⟨rfl, rfl⟩))
  go_ret3; exact ⟨_, _, rfl, Below.refl _ _, unhide H⟩

set_option maxHeartbeats 400000 in
set_option maxRecDepth 1000000 in
theorem inside_open {B : Nat} {vo va : Value} {op al : List Int} (c : Int) (w : World) (hB : B ≤ w.heap.size) (h : Two w B vo va op al) (hi : Inv 2 op al) (hc : cO c = true) (hd : ¬ 5 ≤ op.length) :
    Calls Tryz.prog 67 #[.int .u8 c, vo, va] w fun e w' => Ans w B (stp c op al) e w' := by
  rw [stp_mst (mst_open hc) (by rintro ⟨rfl, _⟩; simp [cO, cC] at hc), if_neg hd]
  have hal := hi.2.2.2.2.2.1 rfl
  obtain ⟨ga, ca, rfl, hga, hga2⟩ := h.formA hal
  obtain ⟨ao, co, rfl⟩ := h.formO
  have ho := h.o
  have ha := h.a
  have hne := hide h.ne
  have HAL := hide hal
  clear h
  obtain ⟨h1, h2, h3⟩ := open_facts hc
  have hl' := hide h1; have hn' := hide h2; clear h1 h2 hc
  have hd' : (op.length : Int) < 5 := by omega
  obtain ⟨i0, hi0, hz0, hz1, hz2⟩ := info_parts Tryz.infoByte
  obtain ⟨i1, hi1, hy0, hy1, hy2⟩ := info_parts Tryz.infoInt
  have hkl : ∀ k, (Value.slice ao op.length co).ownBlock = some k → B ≤ k ∧ k < w.heap.size := ho.lt
  clear hal hi
  have hkl' := hide hkl; clear hkl
  go_enter Tryz.func67, Tryz.ntmps67
  go_wp2_with (first | (go_at_call 78; refine (letter_any _ _).mono ?_; rintro e w' ⟨rfl, rfl⟩; rw [unhide hl']) | (go_at_call 31; refine (name_any _ _).mono ?_; rintro e w' ⟨rfl, rfl⟩; rw [unhide hn']) | (go_at_call 74; refine (rclosing_any _ _).mono ?_; rintro e w' ⟨rfl, rfl⟩) | (at_builtin; refine wpList_append_lies _ rfl _ _ 83 rfl B 5 i0 (.int .u8 0) 1 1 Tryz.underlying83 hi0 hz0 hz1 hz2 rfl (by decide) _ _ _ rfl (ho.alloc _) ⟨_, 0, none⟩ 1 1 [.int .u8 (cC c)] rfl rfl ?c1 ?c2 ?c3 ?c4 ?c5 ?c6 _ rfl ?_) | go_in)
  case c1 =>
    intro j u hj
    match j, hj with
    | 0, hj => simp at hj; subst hj; simp [Addr.add]
  case c2 => intro u hu; simp at hu; subst hu; rfl
  case c3 => omega
  case c4 => unfold maxLen; omega
  case c5 => omega
  case c6 => simp; omega
  · intro g1 cap1 w1 ho1 hg1 hb1 hlt1
    have hsz1 := hg1.size
    simp at hsz1
    have hg1ne : g1 ≠ ga := by
      rcases hb1 with e | e
      · intro e2; subst e2; rcases unhide hne with n | n
        · rw [n] at e; cases e
        · exact n e
      · omega
    have ha1 := (ha.alloc (.cells #[.int .u8 (cC c)] 5)).kept hg1 (by
      right; rcases unhide hne with n | n
      · rw [n]; simp [Value.ownBlock]
      · exact n.symm)
    have hbel := ((Below.refl B _).alloc hB (.cells #[.int .u8 (cC c)] 5)).grown hg1 (by simp; omega) (fun k hk => (unhide hkl' k hk).1)
    have Ho1 := hide ho1
    have Hb := hide hbel
    have hne1 := hide hg1ne
    clear ho1 hbel hg1ne hb1 hg1
    rw [unhide HAL] at ha1
    go_wp2_with (first | (at_builtin; refine wpList_append_lies _ rfl _ _ 92 rfl B 3 i1 (.int .i64 0) 1 8 Tryz.underlying92 hi1 hy0 hy1 hy2 rfl (by decide) _ _ _ rfl (ha1.alloc _) ⟨_, 0, none⟩ 1 1 [.int .i64 1] rfl rfl ?c1 ?c2 ?c3 ?c4 ?c5 ?c6 _ rfl ?_) | go_in)
    case c1 =>
      intro j u hj
      match j, hj with
      | 0, hj => simp at hj; subst hj; simp [Addr.add]
    case c2 => intro u hu; simp at hu; subst hu; rfl
    case c3 => omega
    case c4 => unfold maxLen; omega
    case c5 => omega
    case c6 => simp; omega
    · intro g2 cap2 w2 ha2 hg2 hb2 hlt2
      go_wp2
      go_ret3
      refine ⟨_, _, rfl, ((unhide Hb).alloc (by omega) _).grown hg2 (by simp; omega) (fun k hk => by simp [Value.ownBlock] at hk; omega), ?_, ?_, ?_⟩
      · have := ((unhide Ho1).alloc (.cells #[.int .i64 1] 3)).kept hg2 (by right; simp [Value.ownBlock]; exact unhide hne1)
        simpa using this
      · have := unhide HAL
        simpa [this] using ha2
      · right; intro e; have e : g1 = g2 := by simpa [Value.ownBlock] using e
        rcases hb2 with h | h
        · simp [Value.ownBlock] at h; exact unhide hne1 (e.trans h.symm)
        · omega

theorem Two.lastA {w : World} {B g cap : Nat} {vo : Value} {op al : List Int} (h : Two w B vo (.slice (some ⟨g, 0, none⟩) (op.length + 1) cap) op al) (hl : al.length = op.length + 1) :
    w.cell? ⟨g, op.length, none⟩ = some (.int .i64 (al.getLastD 0)) ∧ w.frozen? ⟨g, op.length, none⟩ = false := by
  have ha := h.a
  rw [hl] at ha
  refine ⟨?_, ha.frozenAt _⟩
  rw [ha.cellAt op.length (by omega), List.getElem?_map, last_at, hl, show op.length + 1 - 1 = op.length from rfl, List.getD_eq_getElem?_getD, List.getElem?_eq_getElem (by omega)]
  rfl
theorem Two.lastO {w : World} {B g cap k : Nat} {va : Value} {op al : List Int} (h : Two w B (.slice (some ⟨g, 0, none⟩) op.length cap) va op al) (hl : op.length = k + 1) :
    w.cell? ⟨g, k, none⟩ = some (.int .u8 (op.getLastD 0)) := by
  have ho := h.o
  rw [ho.cellAt k (by omega), List.getElem?_map, last_at, hl, show k + 1 - 1 = k from rfl, List.getD_eq_getElem?_getD, List.getElem?_eq_getElem (by omega)]
  rfl

set_option maxHeartbeats 400000 in
theorem inside_many {B : Nat} {vo va : Value} {op al : List Int} (w : World) (h : Two w B vo va op al) (hi : Inv 2 op al) (hd : 10 ≤ al.getLastD 0) :
    Calls Tryz.prog 67 #[.int .u8 124, vo, va] w fun e w' => Ans w B (stp 124 op al) e w' := by
  rw [stp_mst mst_bar (by simp), if_pos hd]
  have hal := hi.2.2.2.2.2.1 rfl
  obtain ⟨ga, ca, rfl, hga, hga2⟩ := h.formA hal
  obtain ⟨ao, co, rfl⟩ := h.formO
  obtain ⟨c1, f1⟩ := h.lastA hal
  have H := hide h; clear h hal
  have hl' : Hid (cL 124 = false) := hide (by decide)
  have hn' : Hid (cN 124 = false) := hide (by decide)
  have hz' : Hid (cC 124 = 0) := hide (by decide)
  have h5 := hi.2.2.2.1
  generalize al.getLastD 0 = x at *
  go_enter Tryz.func67, Tryz.ntmps67
  go_wp2_with (first | (go_at_call 78; refine (letter_any _ _).mono ?_; rintro e w' ⟨rfl, rfl⟩; rw [unhide hl']) | (go_at_call 31; refine (name_any _ _).mono ?_; rintro e w' ⟨rfl, rfl⟩; rw [unhide hn']) | (go_at_call 74; refine (rclosing_any _ _).mono ?_; rintro e w' ⟨rfl, rfl⟩; rw [unhide hz']))
  go_ret3; exact ⟨_, _, rfl, Below.refl _ _, unhide H⟩

theorem set_last (l : List Int) (x : Int) (n : Nat) (h : l.length = n + 1) : (l.map (Value.int .i64)).set n (.int .i64 x) = (l.dropLast ++ [x]).map (Value.int .i64) := by
  have hne : l ≠ [] := by intro e; rw [e] at h; simp at h
  obtain ⟨m, y, rfl⟩ : ∃ m y, l = m ++ [y] := ⟨l.dropLast, l.getLast hne, (List.dropLast_concat_getLast hne).symm⟩
  have hm : m.length = n := by simpa using h
  subst hm
  simp

set_option maxHeartbeats 400000 in
theorem inside_bar {B : Nat} {vo va : Value} {op al : List Int} (w : World) (h : Two w B vo va op al) (hi : Inv 2 op al) (hd : ¬ 10 ≤ al.getLastD 0) :
    Calls Tryz.prog 67 #[.int .u8 124, vo, va] w fun e w' => Ans w B (stp 124 op al) e w' := by
  rw [stp_mst mst_bar (by simp), if_neg hd]
  have hal := hi.2.2.2.2.2.1 rfl
  obtain ⟨ga, ca, rfl, hga, hga2⟩ := h.formA hal
  obtain ⟨ao, co, rfl⟩ := h.formO
  obtain ⟨c1, f1⟩ := h.lastA hal
  have H := hide h; clear h
  have HAL := hide hal
  have hne : al ≠ [] := by intro e; rw [e] at hal; simp at hal
  have hm := hi.2.2.2.2.2.2 _ (show al.getLastD 0 ∈ al by rw [List.getLastD_eq_getLast?, List.getLast?_eq_some_getLast hne]; simp)
  clear hal hne
  have hl' : Hid (cL 124 = false) := hide (by decide)
  have hn' : Hid (cN 124 = false) := hide (by decide)
  have hz' : Hid (cC 124 = 0) := hide (by decide)
  have h5 := hi.2.2.2.1
  generalize al.getLastD 0 = x at *
  go_enter Tryz.func67, Tryz.ntmps67
  go_wp2_with (first | (go_at_call 78; refine (letter_any _ _).mono ?_; rintro e w' ⟨rfl, rfl⟩; rw [unhide hl']) | (go_at_call 31; refine (name_any _ _).mono ?_; rintro e w' ⟨rfl, rfl⟩; rw [unhide hn']) | (go_at_call 74; refine (rclosing_any _ _).mono ?_; rintro e w' ⟨rfl, rfl⟩; rw [unhide hz']))
  go_ret3
  have ha := (unhide H).a
  rw [unhide HAL] at ha
  have hst := ha.stored op.length (.int .i64 (x + 1))
  refine ⟨_, _, rfl, (Below.refl _ _).setCell (p := ⟨ga, op.length, none⟩) hga _, (unhide H).o.kept hst.2 ?_, ?_, (unhide H).ne⟩
  · simpa [Value.ownBlock] using (unhide H).ne
  · have := hst.1
    rw [set_last al (x + 1) op.length (unhide HAL)] at this
    simpa [unhide HAL] using this

theorem map_pop (f : Int → Value) (l : List Int) (n : Nat) (h : l.length = n + 1) : ∃ last, l.map f = l.dropLast.map f ++ last ∧ (l.dropLast.map f).length = n * 1 := by
  have hne : l ≠ [] := by intro e; rw [e] at h; simp at h
  refine ⟨[f (l.getLast hne)], ?_, by simp; omega⟩
  conv => lhs; rw [← List.dropLast_concat_getLast hne]
  simp
theorem Two.pop {w : World} {B go ga co ca k : Nat} {op al : List Int} (h : Two w B (.slice (some ⟨go, 0, none⟩) op.length co) (.slice (some ⟨ga, 0, none⟩) (op.length + 1) ca) op al) (hk : op.length = k + 1) (hal : al.length = op.length + 1) (n : Nat) :
    Two (w.drewN n) B (.slice (some ⟨go, 0, none⟩) k co) (.slice (some ⟨ga, 0, none⟩) (k + 1) ca) op.dropLast al.dropLast := by
  obtain ⟨l1, e1, m1⟩ := map_pop (Value.int .u8) op k hk
  obtain ⟨l2, e2, m2⟩ := map_pop (Value.int .i64) al (k + 1) (by omega)
  have ho := h.o
  have ha := h.a
  rw [hal, hk, e2] at ha
  rw [hk, e1] at ho
  have d1 : op.dropLast.length = k := by simp; omega
  have d2 : al.dropLast.length = k + 1 := by simp; omega
  refine ⟨?_, ?_, ?_⟩
  · rw [d1]; exact ownsRow_pop (w := w) m1 ho
  · rw [d2]; exact ownsRow_pop (w := w) m2 ha
  · simpa [Value.ownBlock] using h.ne
theorem close_facts {c : Int} (h : cX c = true) : cL c = false ∧ cN c = false ∧ cC c = 0 ∧ (c == 124) = false := by
  rcases cX_vals h with rfl | rfl | rfl | rfl <;> decide

set_option maxHeartbeats 400000 in
theorem inside_close {B : Nat} {vo va : Value} {op al : List Int} (c : Int) (w : World) (h : Two w B vo va op al) (hi : Inv 2 op al) (hn : op ≠ []) (he : c = op.getLastD 0) :
    Calls Tryz.prog 67 #[.int .u8 c, vo, va] w fun e w' => Ans w B (stp c op al) e w' := by
  have hc : cX c = true := by rw [he]; exact last_cX hi.2.2.2.2.1 hn
  rw [stp_mst (mst_close hc) (fun e => hn e.2), if_pos ⟨hn, he⟩]
  have hal := hi.2.2.2.2.2.1 rfl
  obtain ⟨k, hk⟩ : ∃ k, op.length = k + 1 := ⟨op.length - 1, by have := List.length_pos_iff.2 hn; omega⟩
  obtain ⟨ga, ca, rfl, hga, hga2⟩ := h.formA hal
  obtain ⟨go, co, rfl, hgo, hgo2⟩ := h.o.form (by omega)
  have c1 := h.lastO hk
  rw [← he] at c1
  have H := hide h; clear h
  have HAL := hide hal; clear hal
  obtain ⟨h1, h2, h3, h4⟩ := close_facts hc
  have hl' := hide h1; have hn' := hide h2; have hz' := hide h3; clear h1 h2 h3 hc he hn
  have hlen : op.length ≤ co ∧ op.length + 1 ≤ ca ∧ co ≤ maxLen ∧ ca ≤ maxLen := by
    have h1 := (unhide H).o.2
    have h2 := (unhide H).a.2
    rcases h1 with ⟨h1, _⟩ | ⟨_, _, _, h1, _, _, h1b, h1c, _⟩
    · cases h1
    rcases h2 with ⟨h2, _⟩ | ⟨_, _, _, h2, _, _, h2b, h2c, _⟩
    · cases h2
    cases h1; injection h2 with _ e1 e2; subst e2
    exact ⟨h1b, by omega, h1c, h2c⟩
  unfold maxLen at hlen
  have HK := hide hk
  rw [hk] at hlen ⊢
  clear hk
  go_enter Tryz.func67, Tryz.ntmps67
  go_wp2_with (first | (go_at_call 78; refine (letter_any _ _).mono ?_; rintro e w' ⟨rfl, rfl⟩; rw [unhide hl']) | (go_at_call 31; refine (name_any _ _).mono ?_; rintro e w' ⟨rfl, rfl⟩; rw [unhide hn']) | (go_at_call 74; refine (rclosing_any _ _).mono ?_; rintro e w' ⟨rfl, rfl⟩; rw [unhide hz']))
  go_quiet (fail)
  go_wp2
  go_ret3
  exact ⟨_, _, rfl, below_drewN (Below.refl _ _) _, (unhide H).pop (unhide HK) (unhide HAL) _⟩

theorem stp_bad {c : Int} {op al : List Int} (h1 : (cL c || cN c) = false) (h2 : cC c = 0) (h3 : c ≠ 124) (h4 : ¬ (op ≠ [] ∧ c = op.getLastD 0)) : stp c op al = (2, op, al) := by
  unfold stp; rw [if_neg (by simp [h1]), if_neg (by simp [h2]), if_neg h3, if_neg h4]

set_option maxHeartbeats 400000 in
theorem inside_bad {B : Nat} {vo va : Value} {op al : List Int} (c : Int) (w : World) (h : Two w B vo va op al) (hi : Inv 2 op al) (h1 : (cL c || cN c) = false) (h2 : cC c = 0) (h3 : c ≠ 124) (h4 : ¬ (op ≠ [] ∧ c = op.getLastD 0)) :
    Calls Tryz.prog 67 #[.int .u8 c, vo, va] w fun e w' => Ans w B (stp c op al) e w' := by
  rw [stp_bad h1 h2 h3 h4]
  have hal := hi.2.2.2.2.2.1 rfl
  have h5 := hi.2.2.2.1
  obtain ⟨ga, ca, rfl, hga, hga2⟩ := h.formA hal
  have hl' : Hid (cL c = false) := hide (by simp at h1; exact h1.1)
  have hn' : Hid (cN c = false) := hide (by simp at h1; exact h1.2)
  have hz' := hide h2
  have h3' : (c == 124) = false := by simp [h3]
  clear h1 h2 h3
  by_cases hn : op = []
  · obtain ⟨ao, co, rfl⟩ := h.formO
    subst hn
    have H := hide h; clear h h4
    go_enter Tryz.func67, Tryz.ntmps67
    go_wp2_with (first | (go_at_call 78; refine (letter_any _ _).mono ?_; rintro e w' ⟨rfl, rfl⟩; rw [unhide hl']) | (go_at_call 31; refine (name_any _ _).mono ?_; rintro e w' ⟨rfl, rfl⟩; rw [unhide hn']) | (go_at_call 74; refine (rclosing_any _ _).mono ?_; rintro e w' ⟨rfl, rfl⟩; rw [unhide hz']))
    go_ret3; exact ⟨_, _, rfl, Below.refl _ _, unhide H⟩
  · obtain ⟨k, hk⟩ : ∃ k, op.length = k + 1 := ⟨op.length - 1, by have := List.length_pos_iff.2 hn; omega⟩
    obtain ⟨go, co, rfl, hgo, hgo2⟩ := h.o.form (by omega)
    have c1 := h.lastO hk
    have hx : (c == op.getLastD 0) = false := by simp only [beq_eq_false_iff_ne]; exact fun e => h4 ⟨hn, e⟩
    have H := hide h; clear h h4 hn
    have HK := hide hk
    generalize op.getLastD 0 = x at *
    rw [hk] at h5 ⊢
    clear hk
    go_enter Tryz.func67, Tryz.ntmps67
    go_wp2_with (first | (go_at_call 78; refine (letter_any _ _).mono ?_; rintro e w' ⟨rfl, rfl⟩; rw [unhide hl']) | (go_at_call 31; refine (name_any _ _).mono ?_; rintro e w' ⟨rfl, rfl⟩; rw [unhide hn']) | (go_at_call 74; refine (rclosing_any _ _).mono ?_; rintro e w' ⟨rfl, rfl⟩; rw [unhide hz']))
    go_ret3; exact ⟨_, _, rfl, Below.refl _ _, by have := unhide H; rw [unhide HK] at this; exact this⟩

theorem inside_any {B : Nat} {vo va : Value} {op al : List Int} (c : Int) (w : World) (hB : B ≤ w.heap.size) (h : Two w B vo va op al) (hi : Inv 2 op al) :
    Calls Tryz.prog 67 #[.int .u8 c, vo, va] w fun e w' => Ans w B (stp c op al) e w' := by
  cases h1 : (cL c || cN c)
  · by_cases h2 : cC c = 0
    · by_cases h3 : c = 124
      · subst h3
        by_cases hd : 10 ≤ al.getLastD 0
        · exact inside_many w h hi hd
        · exact inside_bar w h hi hd
      · by_cases h4 : op ≠ [] ∧ c = op.getLastD 0
        · exact inside_close c w h hi h4.1 h4.2
        · exact inside_bad c w h hi h1 h2 h3 h4
    · have ho : cO c = true := by simp [cO, h2]
      by_cases hd : 5 ≤ op.length
      · exact inside_deep c w h hi ho hd
      · exact inside_open c w hB h hi ho hd
  · exact inside_plain c w h hi h1
end Go.Proofs.YtnfaiaoipeholaaGreatDoor

namespace Go.Proofs.YtnfaiaoipeholaaGreatDoor
open Go.RowKit

theorem mst_in {c : Int} {op al : List Int} (h : ¬ (c = 59 ∧ op = [])) : mst c 2 op al = ((stp c op al).1, 2, (stp c op al).2) := by
  unfold mst; rw [if_neg (by omega), if_neg (by omega), if_neg h]
/-- the form's state in the reference's two slices: only within an expression do they matter -/
def Sh (w : World) (B : Nat) (a : Int) (vo va : Value) (op al : List Int) : Prop :=
  Inv a op al ∧ (a = 2 → Two w B vo va op al) ∧ ∃ ao cap, ∃ n : Nat, vo = .slice ao n cap ∧ n ≤ maxLen

set_option maxHeartbeats 400000 in
set_option maxRecDepth 1000000 in
theorem shape_any (s : ByteArray) (w : World) (hs : s.size ≤ maxLen) :
    Calls Tryz.prog 28 #[.string s] w fun e w' => e = .returned (.tuple #[.int .i64 (fmF s s.size 0 0 [] []).1, .int .i64 (fmF s s.size 0 0 [] []).2]) ∧ Below w.heap.size w w' := by
  unfold maxLen at hs
  go_enter Tryz.func28, Tryz.ntmps28
  go_wp2
  go_loopw [4, 5, 6, 7] (fun at_ vo va i wr => ∃ (k : Nat) (a : Int) (op al : List Int), k ≤ s.size ∧ i = .int .i64 k ∧ at_ = .int .i64 a ∧ Sh wr w.heap.size a vo va op al ∧ Below w.heap.size w wr ∧ Hid (fmF s s.size 0 0 [] [] = fmF s (s.size - k) k a op al)) (fun _ _ _ i _ => s.size - (intOf i).toNat)
  case atStart => exact ⟨0, 0, [], [], Nat.zero_le _, rfl, rfl, ⟨Inv.start, by simp, none, 0, 0, rfl, by unfold maxLen; omega⟩, Below.refl _ _, hide rfl⟩
  case round =>
    obtain ⟨k, a, op, al, hk, rfl, rfl, hS, hB, hr⟩ := hrel
    obtain ⟨hI, hT, ao, co, no, rfl, hno⟩ := hS
    have HI := hide hI; have HT := hide hT; clear hI hT
    unfold maxLen at hno
    by_cases hlt : k < s.size
    · have H := hide (bt_at s k hlt)
      by_cases ha0 : a = 0
      · subst ha0
        cases hn : cN (s[k].toNat : Int)
        · have hn' := hide hn; clear hn
          go_wp2_with (go_at_call 31; refine (name_any _ _).mono ?_; rintro e w' ⟨rfl, rfl⟩; rw [unhide hn'])
          go_ret2
          exact ⟨by rw [unhide hr, fmF_bad hlt (by rw [unhide H, mst_name, if_neg (by simp [unhide hn'])]; simp), unhide H, mst_name, if_neg (by simp [unhide hn'])]; rfl, hB⟩
        · have hn' := hide hn; clear hn
          go_wp2_with (go_at_call 31; refine (name_any _ _).mono ?_; rintro e w' ⟨rfl, rfl⟩; rw [unhide hn'])
          go_roundw
          case rel =>
            have hm : mst (bt s k) 0 op al = (0, 1, op, al) := by rw [unhide H, mst_name, if_pos (unhide hn')]
            have h0 : (mst (bt s k) 0 op al).1 = 0 := by rw [hm]
            have hf := fmF_good hlt h0
            have hst := (unhide HI).step h0
            rw [hm] at hf hst
            exact ⟨k + 1, 1, op, al, by omega, by go_num, rfl, ⟨hst, by simp, ao, co, no, rfl, by unfold maxLen; omega⟩, hB, hide ((unhide hr).trans hf)⟩
          case measure => simp [intOf]; omega
      by_cases ha1 : a = 1
      · subst ha1
        by_cases he : (s[k].toNat : Int) = 61
        · have he' : ((s[k].toNat : Int) == 61) = true := by simp [he]
          have HE := hide he; clear he
          go_wp2_with (go_at_call 31; refine (name_any _ _).mono ?_; rintro e w' ⟨rfl, hw⟩; subst hw)
          go_roundw
          case rel =>
            have hm : mst (bt s k) 1 op al = (0, 2, [], [1]) := by rw [unhide H, mst_eq, if_pos (unhide HE)]
            have h0 : (mst (bt s k) 1 op al).1 = 0 := by rw [hm]
            have hf := fmF_good hlt h0
            have hst := (unhide HI).step h0
            rw [hm] at hf hst
            refine ⟨k + 1, 2, [], [1], by omega, by go_num, rfl, ⟨hst, fun _ => ⟨World.ownsRow_nil _ _ _ _, ?_, .inl rfl⟩, none, 0, 0, rfl, by unfold maxLen; omega⟩, hB.alloc hB.size _, hide ((unhide hr).trans hf)⟩
            exact World.ownsRow_lit _ _ 1 hB.size (by unfold maxLen; omega) rfl
          case measure => simp [intOf]; omega
        · have he' : ((s[k].toNat : Int) == 61) = false := by simp only [beq_eq_false_iff_ne]; exact he
          go_wp2_with (go_at_call 31; refine (name_any _ _).mono ?_; rintro e w' ⟨rfl, hw⟩; subst hw)
          go_ret2
          exact ⟨by rw [unhide hr, fmF_bad hlt (by rw [unhide H, mst_eq, if_neg he]; simp), unhide H, mst_eq, if_neg he]; rfl, hB⟩
      · have ha2 : a = 2 := by have := (unhide HI).1; have := (unhide HI).2.1; omega
        subst ha2
        have T := unhide HT rfl
        obtain ⟨ao', co', hv⟩ := T.formO
        injection hv with hv1 hv2 hv3
        subst hv1 hv2 hv3
        by_cases hz : (s[k].toNat : Int) = 59 ∧ op = []
        · have hz1 : ((s[k].toNat : Int) == 59) = true := by simp [hz.1]
          have hz2 : ((op.length : Int) == 0) = true := by simp [hz.2]
          have HZ := hide hz; clear hz
          have HTT := hide T; clear T
          go_wp2_with (go_at_call 31; refine (name_any _ _).mono ?_; rintro e w' ⟨rfl, hw⟩; subst hw)
          go_roundw
          case rel =>
            have hm : mst (bt s k) 2 op al = (0, 0, op, al) := by rw [unhide H]; unfold mst; rw [if_neg (by omega), if_neg (by omega), if_pos (unhide HZ)]
            have h0 : (mst (bt s k) 2 op al).1 = 0 := by rw [hm]
            have hf := fmF_good hlt h0
            have hst := (unhide HI).step h0
            rw [hm] at hf hst
            exact ⟨k + 1, 0, op, al, by omega, by go_num, rfl, ⟨hst, by simp, ao, co, op.length, rfl, by unfold maxLen; omega⟩, hB, hide ((unhide hr).trans hf)⟩
          case measure => simp [intOf]; omega
        · have hzb : Hid (mst (s[k].toNat : Int) 2 op al = ((stp (s[k].toNat : Int) op al).1, 2, (stp (s[k].toNat : Int) op al).2)) := hide (mst_in hz)
          have HTT := hide T; clear T
          have hcase : Hid (((s[k].toNat : Int) == 59) = false ∨ ((s[k].toNat : Int) == 59) = true ∧ ((op.length : Int) == 0) = false) := hide (by
            by_cases e : (s[k].toNat : Int) = 59
            · exact .inr ⟨by simp only [beq_iff_eq]; exact e, by rw [beq_eq_false_iff_ne]; intro e2; exact hz ⟨e, List.length_eq_zero_iff.1 (by omega)⟩⟩
            · exact .inl (by rw [beq_eq_false_iff_ne]; exact e))
          clear hz
          by_cases h0 : (stp (s[k].toNat : Int) op al).1 = 0
          · have h0' : ((stp (s[k].toNat : Int) op al).1 != 0) = false := by simp [h0]
            have H0 := hide h0; clear h0
            rcases unhide hcase with hz1 | ⟨hz1, hz2⟩
            all_goals
              go_wp2_with (first | (go_at_call 31; refine (name_any _ _).mono ?_; rintro e w' ⟨rfl, hw⟩; subst hw) | (go_at_call 67; refine (inside_any _ _ hB.size (unhide HTT) (unhide HI)).mono ?_; rintro e w' ⟨vo', va', rfl, hb', T'⟩))
              go_roundw
              case rel =>
                have hm := unhide hzb
                rw [← unhide H] at hm
                have h0 : (mst (bt s k) 2 op al).1 = 0 := by rw [hm, unhide H]; exact unhide H0
                have hf := fmF_good hlt h0
                have hst := (unhide HI).step h0
                rw [hm] at hf hst
                obtain ⟨ao', co', hv'⟩ := T'.formO
                have hl5 := hst.2.2.2.1
                rw [unhide H] at hf hst hl5
                simp only at hl5
                exact ⟨k + 1, 2, _, _, by omega, by go_num, rfl, ⟨hst, fun _ => T', ao', co', _, hv', by unfold maxLen; omega⟩, hB.trans hb', hide ((unhide hr).trans hf)⟩
              case measure => simp [intOf]; omega
          · have h0' : ((stp (s[k].toNat : Int) op al).1 != 0) = true := by simp [h0]
            have H0 := hide h0; clear h0
            rcases unhide hcase with hz1 | ⟨hz1, hz2⟩
            all_goals
              go_wp2_with (first | (go_at_call 31; refine (name_any _ _).mono ?_; rintro e w' ⟨rfl, hw⟩; subst hw) | (go_at_call 67; refine (inside_any _ _ hB.size (unhide HTT) (unhide HI)).mono ?_; rintro e w' ⟨vo', va', rfl, hb', T'⟩))
              go_ret2
              exact ⟨by rw [unhide hr, fmF_bad hlt (by rw [unhide H, unhide hzb]; exact unhide H0), unhide H, unhide hzb]; rfl, hB.trans hb'⟩
    · have hfe := fmF_end (a := a) (op := op) (al := al) hlt
      by_cases ha : a = 0
      · have ha' : (a != 0) = false := by simp [ha]
        by_cases hz : s.size = 0
        · have hz' : ((s.size : Int) == 0) = true := by simp [hz]
          rw [if_pos (.inr hz)] at hfe
          have hfe' := hide hfe; clear hfe hz ha
          go_wp2
          go_ret2
          exact ⟨by rw [unhide hr, unhide hfe']; rfl, hB⟩
        · have hz' : ((s.size : Int) == 0) = false := by rw [beq_eq_false_iff_ne]; omega
          rw [if_neg (by omega)] at hfe
          have hfe' := hide hfe; clear hfe hz ha
          go_wp2
          go_ret2
          exact ⟨by rw [unhide hr, unhide hfe']; rfl, hB⟩
      · have ha' : (a != 0) = true := by simp [ha]
        rw [if_pos (.inl ha)] at hfe
        have hfe' := hide hfe; clear hfe ha
        go_wp2
        go_ret2
        exact ⟨by rw [unhide hr, unhide hfe']; rfl, hB⟩

theorem nm_neg (s : ByteArray) (c : Int) : (decide (rl s c < 0)) = (rl s c == -1) := by
  have := rl_bd s c
  by_cases h : rl s c = -1
  · rw [h]; rfl
  · rw [beq_eq_false_iff_ne.2 h]; simp; omega

set_option maxHeartbeats 400000 in
theorem refCheck_any (s : ByteArray) (w : World) (hs : s.size ≤ maxLen) :
    Calls Tryz.prog 14 #[.string s] w fun e w' => e = .returned (.tuple #[.int .i64 (chk s).1, .int .i64 (chk s).2]) ∧ Below w.heap.size w w' := by
  have hs' := hs
  unfold maxLen at hs'
  unfold chk
  by_cases hl : 300 < s.size
  · rw [if_pos hl]
    go_enter Tryz.func14, Tryz.ntmps14
    go_wp2
    go_ret2; exact ⟨rfl, Below.refl _ _⟩
  rw [if_neg hl]
  by_cases h1 : (fmF s s.size 0 0 [] []).1 = 0
  case neg =>
    rw [if_pos h1]
    have h1' : ((fmF s s.size 0 0 [] []).1 != 0) = true := by simp [h1]
    clear h1
    go_enter Tryz.func14, Tryz.ntmps14
    go_wp2_with (go_at_call 28; refine (shape_any _ _ hs).mono ?_; rintro e w1 ⟨rfl, hb1⟩)
    go_ret2; exact ⟨rfl, hb1⟩
  case pos =>
    rw [if_neg (by simp [h1])]
    have h1' : ((fmF s s.size 0 0 [] []).1 != 0) = false := by simp [h1]
    clear h1
    by_cases h2 : (twF s s.size 0).1 = 0
    case neg =>
      rw [if_pos h2]
      have H2 := hide h2; clear h2
      go_enter Tryz.func14, Tryz.ntmps14
      go_wp2_with (go_at_call 28; refine (shape_any _ _ hs).mono ?_; rintro e w1 ⟨rfl, hb1⟩)
      go_loop [6] (fun i => ∃ k : Nat, k ≤ s.size ∧ i = .int .i64 k ∧ Hid (twF s s.size 0 = twF s (s.size - k) k)) (fun i => s.size - (intOf i).toNat)
      case atStart => exact ⟨0, Nat.zero_le _, rfl, hide rfl⟩
      case round =>
        obtain ⟨k, hk, rfl, hr⟩ := hrel
        by_cases hlt : k < s.size
        · have H := hide (bt_at s k hlt)
          cases hb : begB s k
          · have hb' := hide hb; clear hb
            go_wp2_with (first | (go_at_call 29; refine (begins_any _ _ _ hs (by omega) (by omega)).mono ?_; rintro e w' ⟨rfl, hw⟩; subst hw; rw [unhide hb']) | (go_at_call 30; refine (rule_any _ _ _ hs).mono ?_; rintro e w' ⟨rfl, hw⟩; subst hw))
            go_round
            case rel => exact ⟨k + 1, by omega, by go_num, hide ((unhide hr).trans (twF_no hlt (by rw [unhide hb']; rfl)))⟩
            case measure => simp [intOf]; omega
          · have hb' := hide hb; clear hb
            by_cases hc : (rl s (s[k].toNat : Int) != k) = true
            · go_wp2_with (first | (go_at_call 29; refine (begins_any _ _ _ hs (by omega) (by omega)).mono ?_; rintro e w' ⟨rfl, hw⟩; subst hw; rw [unhide hb']) | (go_at_call 30; refine (rule_any _ _ _ hs).mono ?_; rintro e w' ⟨rfl, hw⟩; subst hw))
              go_ret2
              exact ⟨by rw [unhide hr, twF_yes hlt (by rw [unhide hb', unhide H, hc]; rfl)]; rfl, hb1⟩
            · have hc' : (rl s (s[k].toNat : Int) != k) = false := by simpa using hc
              clear hc
              go_wp2_with (first | (go_at_call 29; refine (begins_any _ _ _ hs (by omega) (by omega)).mono ?_; rintro e w' ⟨rfl, hw⟩; subst hw; rw [unhide hb']) | (go_at_call 30; refine (rule_any _ _ _ hs).mono ?_; rintro e w' ⟨rfl, hw⟩; subst hw))
              go_round
              case rel => exact ⟨k + 1, by omega, by go_num, hide ((unhide hr).trans (twF_no hlt (by rw [unhide hb', unhide H, hc']; rfl)))⟩
              case measure => simp [intOf]; omega
        · exact absurd (by rw [unhide hr, twF_end hlt] : (twF s s.size 0).1 = 0) (unhide H2)
    case pos =>
      rw [if_neg (by simp [h2])]
      have H2 := hide h2; clear h2
      go_enter Tryz.func14, Tryz.ntmps14
      go_wp2_with (go_at_call 28; refine (shape_any _ _ hs).mono ?_; rintro e w1 ⟨rfl, hb1⟩)
      go_loop [6] (fun i => ∃ k : Nat, k ≤ s.size ∧ i = .int .i64 k ∧ Hid (twF s s.size 0 = twF s (s.size - k) k)) (fun i => s.size - (intOf i).toNat)
      case atStart => exact ⟨0, Nat.zero_le _, rfl, hide rfl⟩
      case round =>
        obtain ⟨k, hk, rfl, hr⟩ := hrel
        by_cases hlt : k < s.size
        · have H := hide (bt_at s k hlt)
          cases hb : begB s k
          · have hb' := hide hb; clear hb
            go_wp2_with (first | (go_at_call 29; refine (begins_any _ _ _ hs (by omega) (by omega)).mono ?_; rintro e w' ⟨rfl, hw⟩; subst hw; rw [unhide hb']) | (go_at_call 30; refine (rule_any _ _ _ hs).mono ?_; rintro e w' ⟨rfl, hw⟩; subst hw))
            go_round
            case rel => exact ⟨k + 1, by omega, by go_num, hide ((unhide hr).trans (twF_no hlt (by rw [unhide hb']; rfl)))⟩
            case measure => simp [intOf]; omega
          · have hb' := hide hb; clear hb
            by_cases hc : (rl s (s[k].toNat : Int) != k) = true
            · go_wp2_with (first | (go_at_call 29; refine (begins_any _ _ _ hs (by omega) (by omega)).mono ?_; rintro e w' ⟨rfl, hw⟩; subst hw; rw [unhide hb']) | (go_at_call 30; refine (rule_any _ _ _ hs).mono ?_; rintro e w' ⟨rfl, hw⟩; subst hw))
              have := unhide H2
              rw [unhide hr, twF_yes hlt (by rw [unhide hb', unhide H, hc]; rfl)] at this
              simp at this
            · have hc' : (rl s (s[k].toNat : Int) != k) = false := by simpa using hc
              clear hc
              go_wp2_with (first | (go_at_call 29; refine (begins_any _ _ _ hs (by omega) (by omega)).mono ?_; rintro e w' ⟨rfl, hw⟩; subst hw; rw [unhide hb']) | (go_at_call 30; refine (rule_any _ _ _ hs).mono ?_; rintro e w' ⟨rfl, hw⟩; subst hw))
              go_round
              case rel => exact ⟨k + 1, by omega, by go_num, hide ((unhide hr).trans (twF_no hlt (by rw [unhide hb', unhide H, hc']; rfl)))⟩
              case measure => simp [intOf]; omega
        · clear hr
          go_wp2
          go_loop [9] (fun i => ∃ k : Nat, k ≤ s.size ∧ i = .int .i64 k ∧ Hid (nmF s s.size 0 = nmF s (s.size - k) k)) (fun i => s.size - (intOf i).toNat)
          case atStart => exact ⟨0, Nat.zero_le _, rfl, hide rfl⟩
          case round =>
            obtain ⟨k, hk, rfl, hr⟩ := hrel
            by_cases hlt : k < s.size
            · have H := hide (bt_at s k hlt)
              cases hb : cN (s[k].toNat : Int)
              · have hb' := hide hb; clear hb
                go_wp2_with (first | (go_at_call 31; refine (name_any _ _).mono ?_; rintro e w' ⟨rfl, hw⟩; subst hw; rw [unhide hb']) | (go_at_call 30; refine (rule_any _ _ _ hs).mono ?_; rintro e w' ⟨rfl, hw⟩; subst hw))
                go_round
                case rel => exact ⟨k + 1, by omega, by go_num, hide ((unhide hr).trans (nmF_no hlt (by rw [unhide H, unhide hb']; rfl)))⟩
                case measure => simp [intOf]; omega
              · have hb' := hide hb; clear hb
                have hn := nm_neg s (s[k].toNat : Int)
                by_cases hc : rl s (s[k].toNat : Int) < 0
                · have hc2 : Hid ((rl s (s[k].toNat : Int) == -1) = true) := hide (by rw [← hn]; simp [hc])
                  clear hn
                  go_wp2_with (first | (go_at_call 31; refine (name_any _ _).mono ?_; rintro e w' ⟨rfl, hw⟩; subst hw; rw [unhide hb']) | (go_at_call 30; refine (rule_any _ _ _ hs).mono ?_; rintro e w' ⟨rfl, hw⟩; subst hw))
                  go_ret2
                  exact ⟨by rw [unhide hr, nmF_yes hlt (by rw [unhide H, unhide hb', unhide hc2]; rfl)]; rfl, hb1⟩
                · have hc2 : Hid ((rl s (s[k].toNat : Int) == -1) = false) := hide (by rw [← hn]; simp; omega)
                  have hc3 : decide (rl s (s[k].toNat : Int) < 0) = false := by simp; omega
                  clear hn
                  go_wp2_with (first | (go_at_call 31; refine (name_any _ _).mono ?_; rintro e w' ⟨rfl, hw⟩; subst hw; rw [unhide hb']) | (go_at_call 30; refine (rule_any _ _ _ hs).mono ?_; rintro e w' ⟨rfl, hw⟩; subst hw))
                  go_round
                  case rel => exact ⟨k + 1, by omega, by go_num, hide ((unhide hr).trans (nmF_no hlt (by rw [unhide H, unhide hb', unhide hc2]; rfl)))⟩
                  case measure => simp [intOf]; omega
            · go_wp2
              go_ret2
              exact ⟨by rw [unhide hr, nmF_end hlt]; rfl, hb1⟩
end Go.Proofs.YtnfaiaoipeholaaGreatDoor

namespace Go.Proofs.YtnfaiaoipeholaaGreatDoor
open Go.RowKit

set_option maxHeartbeats 400000 in
theorem num_any (x : Int) (w : World) : Calls Tryz.prog 15 #[.int .i64 x] w fun e w' => e = .returned (.int .i64 x) ∧ w' = w := by
  go_enter Tryz.func15, Tryz.ntmps15
  go_wp2
  go_ret; exact ⟨rfl, rfl⟩

theorem bcell {W w1 : World} (hb : Below W.heap.size W w1) : (∀ b o, b < W.heap.size → w1.cell? ⟨b, o, none⟩ = W.cell? ⟨b, o, none⟩) ∧ (∀ b o, b < W.heap.size → w1.frozen? ⟨b, o, none⟩ = W.frozen? ⟨b, o, none⟩) :=
  ⟨fun b o h => hb.cell (p := ⟨b, o, none⟩) h, fun b o h => hb.frozen (p := ⟨b, o, none⟩) h⟩

set_option maxHeartbeats 400000 in
set_option maxRecDepth 1000000 in
theorem plays_check (n m : Int) (s t u : ByteArray) (w : World) (hs : s.size ≤ maxLen) :
    Calls Tryz.prog 6 #[.agg #[.int .i64 1, .int .i64 n, .int .i64 m, .string s, .string t, .string u]] w fun e w' => e = .returned (.bool true) ∧ Below w.heap.size w w' := by
  go_enter Tryz.func6, Tryz.ntmps6
  go_wp2_with fail
  refine (check_any _ _ hs).mono ?_
  rintro e w1 ⟨rfl, hb1⟩
  obtain ⟨hc1, _⟩ := bcell hb1
  have hz := hb1.size
  simp at hz
  go_wp2_with fail
  refine (refCheck_any _ _ hs).mono ?_
  rintro e w2 ⟨rfl, hb2⟩
  go_wp2_with (go_at_call 15; refine (num_any _ _).mono ?_; rintro e w' ⟨rfl, hw⟩; subst hw)
  go_ret
  refine ⟨rfl, ?_⟩
  exact (((Below.refl _ _).alloc (Nat.le_refl _) _).trans (hb1.mono (by simp))).trans (hb2.mono (by omega))

theorem head_check : chk ⟨#[83, 61, 97, 59, 83, 61, 98, 59]⟩ = (5, 4) := by decide +kernel

set_option maxHeartbeats 400000 in
set_option maxRecDepth 1000000 in
theorem heads_check (w : World) : Calls Tryz.prog 4 #[.int .i64 1] w fun e w' => e = .returned (.bool true) ∧ Below w.heap.size w w' := by
  have hsz : (⟨#[83, 61, 97, 59, 83, 61, 98, 59]⟩ : ByteArray).size ≤ maxLen := by decide +kernel
  have hh := hide head_check
  go_enter Tryz.func4, Tryz.ntmps4
  go_wp2_with fail
  refine (check_any _ _ hsz).mono ?_
  rw [unhide hh]
  rintro e w1 ⟨rfl, hb1⟩
  go_wp2
  go_ret
  exact ⟨rfl, hb1⟩
end Go.Proofs.YtnfaiaoipeholaaGreatDoor
