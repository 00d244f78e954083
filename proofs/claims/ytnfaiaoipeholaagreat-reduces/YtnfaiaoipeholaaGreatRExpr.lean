/- The reference reads an expression out of a grammar's text: the walk, by induction. -/
import Derived.Test.YtnfaiaoipeholaaGreatBuild
import Derived.Test.YtnfaiaoipeholaaGreatRLeaf
namespace Go.Proofs.YtnfaiaoipeholaaGreat
open Go.RowKit

theorem Tryz.infoFac : (Tryz.prog.info? 98).map (fun i => (i.zero, i.size, i.bytes)) = some (some (.agg #[.int .u8 0, .pointer none]), 2, 16) := by kernel_rfl
theorem Tryz.infoAlt : (Tryz.prog.info? 158).map (fun i => (i.zero, i.size, i.bytes)) = some (some (.slice none 0 0), 1, 24) := by kernel_rfl

/-- what it answers -/
def OutX (s : ByteArray) (w : World) (x : Nat) (e : Ending) (w' : World) : Prop :=
  ∃ m, e = .returned (.tuple #[.pointer (some ⟨w.heap.size, 0, none⟩), .int .i64 (ee s x)]) ∧ EA w' s m (fun b => w.heap.size ≤ b ∧ b < w'.heap.size) w.heap.size x ∧ Below w.heap.size w w'
/-- expressions that go on well for so long -/
def SaidX (s : ByteArray) (n : Nat) : Prop :=
  ∀ (q : Int) (x d : Nat) (w : World), q = x → good s n x d →
    Calls Tryz.prog 109 #[.string s, .int .i64 q] w fun e w' => OutX s w x e w'

/-- the loop's relation -/
def RX (s : ByteArray) (w : World) (x d n : Nat) (iv vl : Value) (wr : World) : Prop :=
  ∃ (k : Nat) (va : Value) (A Q : List (Nat × Value)) (a m gn : Nat), iv = .int .i64 k ∧ XI wr s w.heap.size x m k va vl A Q a ∧ Below w.heap.size w wr ∧ gn ≤ n ∧ good s gn k d ∧ ee s x = ee s k ∧ k ≤ s.size

theorem good_lt {s : ByteArray} {n k d : Nat} (h : good s n k d) : k < s.size := by
  cases n with
  | zero => exact h.elim
  | succ n =>
    refine bt_lt ?_
    intro e
    unfold good at h
    rw [e] at h
    rcases h with ⟨h | h, _⟩ | ⟨h, _⟩ | ⟨h, _⟩ | ⟨h, _⟩
    · revert h; decide
    · omega
    · revert h; decide
    · revert h; decide
    · omega

theorem XI.vlForm {w : World} {s : ByteArray} {eb x m k a : Nat} {va vl : Value} {A Q : List (Nat × Value)} (h : XI w s eb x m k va vl A Q a) : ∃ ao cl, vl = .slice ao Q.length cl := by
  rcases h.rl.2 with ⟨rfl, e⟩ | ⟨g, cap, cur, rfl, _⟩
  · exact ⟨none, 0, by rw [e]⟩
  · exact ⟨_, _, rfl⟩
theorem EA_of_parts {w : World} {s : ByteArray} {eb x m a g cap : Nat} {vl : Value} {A : List (Nat × Value)} (h1 : eb < w.heap.size) (h2 : w.cell? ⟨eb, 0, none⟩ = some (.slice (some ⟨g, 0, none⟩) (A.length + 1) cap)) (h4 : eb + 1 ≤ g)
    (h5 : w.ownsRow (eb + 1) 158 1 (.slice (some ⟨g, 0, none⟩) (A.length + 1) cap) (A.length + 1) ((A ++ [(a, vl)]).map Prod.snd))
    (h6 : ∀ j y, (A ++ [(a, vl)])[j]? = some y → ap s j x = some y.1 ∧ AAt w (EA w s m (Sx eb w (.slice (some ⟨g, 0, none⟩) (A.length + 1) cap) (.slice none 0 0))) (Sx eb w (.slice (some ⟨g, 0, none⟩) (A.length + 1) cap) (.slice none 0 0)) s y.2 (fe s y.1).1)
    (h7 : ap s (A ++ [(a, vl)]).length x = none) (h8 : (A ++ [(a, vl)]).length ≤ 400) : EA w s (m + 1) (fun b => eb ≤ b ∧ b < w.heap.size) eb x := by
  have hgl := (h5.lt g rfl).2
  have hS : ∀ b, Sx eb w (.slice (some ⟨g, 0, none⟩) (A.length + 1) cap) (.slice none 0 0) b → eb ≤ b ∧ b < w.heap.size := fun b hb => ⟨by have := hb.1; omega, hb.2.1⟩
  refine ⟨⟨Nat.le_refl _, h1⟩, A.length + 1, g, cap, by omega, by simpa using h8, h2, ⟨by omega, hgl⟩, by simpa using h7, fun k hk => ?_⟩
  have hk' : k < (A ++ [(a, vl)]).length := by simpa using hk
  obtain ⟨h9, h10⟩ := h6 k (A ++ [(a, vl)])[k] (List.getElem?_eq_getElem hk')
  refine ⟨_, _, h9, ?_, h10.frame (fun _ _ => rfl) hS (fun p x hh => EA.frame (fun _ _ => rfl) hS m m p x (Nat.le_refl _) hh)⟩
  rw [h5.cellAt k (by omega), List.getElem?_map, List.getElem?_eq_getElem hk']
  rfl

set_option maxHeartbeats 1000000 in
set_option maxRecDepth 1000000 in
theorem expr_any (s : ByteArray) (hs : s.size ≤ 300) (n : Nat) (ih : ∀ m, m < n → SaidX s m) : SaidX s n := by
  intro q x d w hq hgood
  subst hq
  have hx := good_lt hgood
  have HG := hide hgood
  have IH := hide ih
  clear hgood ih
  obtain ⟨i0, hi0, hz0, hz1, hz2⟩ := info_parts Tryz.infoFac
  obtain ⟨i1, hi1, hy0, hy1, hy2⟩ := info_parts Tryz.infoAlt
  go_enter Tryz.func109, Tryz.ntmps109
  go_wp2
  go_loopw [1, 7] (fun iv vl wr => Hid (RX s w x d n iv vl wr)) (fun iv _ _ => s.size - (intOf iv).toNat)
  case atStart => exact hide ⟨x, _, [], [], x, 0, n, rfl, XI.start, (Below.refl _ _).alloc (Nat.le_refl _) _, Nat.le_refl _, unhide HG, rfl, by omega⟩
  case round =>
    obtain ⟨k, va, A, Q, a, m, gn, hiv, hXI, hB, hgn, hgd, hee, hks⟩ := unhide hrel
    subst hiv
    have hlt := good_lt hgd
    have hbk := bt_at s k hlt
    have hcnt := hXI.cnt
    have hebl := hXI.lt
    cases gn with
    | zero => exact hgd.elim
    | succ gn =>
    unfold good at hgd
    rcases hgd with ⟨hc | hc, hg⟩ | ⟨hc, hg⟩ | ⟨hc, d', hd, hg⟩ | ⟨hc, hd⟩
    · -- a letter, a name
      have hrl := hXI.rl
      have HX := hide hXI
      have HEE := hide hee
      have HGD := hide hg
      have HB := hide hB
      have HC := hide hc
      have HBK := hide hbk
      rw [hbk] at hc
      clear hXI hee hg hB hbk hrel
      have hF : Hid (isF s k = true) := hide (by unfold isF; rw [unhide HC]; rfl)
      have hbh : Hid (bh s k = k + 1) := hide (bh_plain hlt (unhide HC))
      have hcO : Hid (cO (bt s k) = false) := hide (plain_not (.inl (unhide HC))).1
      have hek : Hid (ee s k = ee s (k + 1)) := hide (by rw [ee_fac (unhide hF), unhide hbh])
      cases hL : cL (s[k].toNat : Int)
      · have hN : cN (s[k].toNat : Int) = true := by simpa [hL] using hc
        have HL := hide hL; have HN := hide hN
        clear hL hN hc
        go_wp2_with (first | (go_at_call 115; refine (rclosing_any _ _).mono ?_; rintro e w' ⟨rfl, hw⟩; replace hw := hw.symm; subst hw) | (go_at_call 119; refine (letter_any _ _).mono ?_; rintro e w' ⟨rfl, hw⟩; replace hw := hw.symm; subst hw; rw [unhide HL]) | (go_at_call 59; refine (name_any _ _).mono ?_; rintro e w' ⟨rfl, hw⟩; replace hw := hw.symm; subst hw; rw [unhide HN]) | (at_builtin; refine wpList_append_lies _ rfl _ _ 158 rfl (w.heap.size + 1) 98 i0 (.agg #[.int .u8 0, .pointer none]) 2 16 Tryz.underlying158 hi0 hz0 hz1 hz2 rfl (by decide) _ _ _ rfl (hrl.alloc _) ⟨_, 0, none⟩ 1 1 [.int .u8 (s[k].toNat : Int), .pointer none] rfl rfl ?c1 ?c2 ?c3 ?c4 ?c5 ?c6 _ rfl ?_) | go_in)
        case c1 => exact World.news_of_block (heap_alloc_new _ _)
        case c2 => intro u hu; simp at hu; rcases hu with rfl | rfl <;> rfl
        case c3 => omega
        case c4 => unfold maxLen; omega
        case c5 => omega
        case c6 => simp; omega
        · intro g cap w2 hown hgr hbb hgl
          have hp := (unhide HX).push (g := g) (cap := cap) (sv := .pointer none) (unhide hF) (unhide hbh) (.inl ⟨unhide hcO, rfl⟩) (by rw [unhide HBK]; exact hown) hgr hbb
          have HP := hide hp
          clear hp hown hgr hbb hgl hrl
          go_wp2
          go_roundw
          case rel => exact hide ⟨k + 1, va, A, _, a, m, gn, by go_num, (unhide HP).1, (unhide HB).trans ((unhide HP).2.mono (by omega)), by omega, unhide HGD, (unhide HEE).trans (unhide hek), by omega⟩
          case measure => simp [intOf]; omega
      · have HL := hide hL
        clear hL hc
        go_wp2_with (first | (go_at_call 115; refine (rclosing_any _ _).mono ?_; rintro e w' ⟨rfl, hw⟩; replace hw := hw.symm; subst hw) | (go_at_call 119; refine (letter_any _ _).mono ?_; rintro e w' ⟨rfl, hw⟩; replace hw := hw.symm; subst hw; rw [unhide HL]) | (go_at_call 59; refine (name_any _ _).mono ?_; rintro e w' ⟨rfl, hw⟩; replace hw := hw.symm; subst hw) | (at_builtin; refine wpList_append_lies _ rfl _ _ 158 rfl (w.heap.size + 1) 98 i0 (.agg #[.int .u8 0, .pointer none]) 2 16 Tryz.underlying158 hi0 hz0 hz1 hz2 rfl (by decide) _ _ _ rfl (hrl.alloc _) ⟨_, 0, none⟩ 1 1 [.int .u8 (s[k].toNat : Int), .pointer none] rfl rfl ?c1 ?c2 ?c3 ?c4 ?c5 ?c6 _ rfl ?_) | go_in)
        case c1 => exact World.news_of_block (heap_alloc_new _ _)
        case c2 => intro u hu; simp at hu; rcases hu with rfl | rfl <;> rfl
        case c3 => omega
        case c4 => unfold maxLen; omega
        case c5 => omega
        case c6 => simp; omega
        · intro g cap w2 hown hgr hbb hgl
          have hp := (unhide HX).push (g := g) (cap := cap) (sv := .pointer none) (unhide hF) (unhide hbh) (.inl ⟨unhide hcO, rfl⟩) (by rw [unhide HBK]; exact hown) hgr hbb
          have HP := hide hp
          clear hp hown hgr hbb hgl hrl
          go_wp2
          go_roundw
          case rel => exact hide ⟨k + 1, va, A, _, a, m, gn, by go_num, (unhide HP).1, (unhide HB).trans ((unhide HP).2.mono (by omega)), by omega, unhide HGD, (unhide HEE).trans (unhide hek), by omega⟩
          case measure => simp [intOf]; omega
    · -- a bar
      obtain ⟨ao, cl, hu7⟩ := hXI.vlForm
      subst hu7
      have hra := hXI.ra
      have c0 := hXI.cell
      have HX := hide hXI
      have HEE := hide hee
      have HGD := hide hg
      have HB := hide hB
      have HC := hide hc
      have HBK := hide hbk
      rw [hbk] at hc
      clear hXI hee hg hB hbk hrel
      have hF : Hid (isF s k = false) := hide (by unfold isF; rw [unhide HC]; decide)
      have HL : Hid (cL (s[k].toNat : Int) = false) := hide (by rw [hc]; decide)
      have HN : Hid (cN (s[k].toNat : Int) = false) := hide (by rw [hc]; decide)
      have HZ : Hid (cC (s[k].toNat : Int) = 0) := hide (by rw [hc]; decide)
      have h124 : ((s[k].toNat : Int) == 124) = true := by simp only [beq_iff_eq]; exact hc
      have hfk : Hid ((fe s k).2 = k) := hide (by rw [fe_no (unhide hF)])
      have hek : Hid (ee s k = ee s (k + 1)) := hide (by rw [ee_bar (by rw [unhide hfk]; exact unhide HC), unhide hfk])
      clear hc
      go_wp2_with (first | (go_at_call 115; refine (rclosing_any _ _).mono ?_; rintro e w' ⟨rfl, hw⟩; replace hw := hw.symm; subst hw; rw [unhide HZ]) | (go_at_call 119; refine (letter_any _ _).mono ?_; rintro e w' ⟨rfl, hw⟩; replace hw := hw.symm; subst hw; rw [unhide HL]) | (go_at_call 59; refine (name_any _ _).mono ?_; rintro e w' ⟨rfl, hw⟩; replace hw := hw.symm; subst hw; rw [unhide HN]) | (at_builtin; refine wpList_append_lies _ rfl _ _ 155 rfl (w.heap.size + 1) 158 i1 (.slice none 0 0) 1 24 Tryz.underlying155 hi1 hy0 hy1 hy2 rfl (by decide) _ _ _ rfl (hra.alloc _) ⟨_, 0, none⟩ 1 1 [.slice ao Q.length cl] rfl rfl ?c1 ?c2 ?c3 ?c4 ?c5 ?c6 _ rfl ?_) | go_in)
      case c1 => exact World.news_of_block (heap_alloc_new _ _)
      case c2 => intro u hu; simp at hu; subst hu; rfl
      case c3 => omega
      case c4 => unfold maxLen; omega
      case c5 => omega
      case c6 => simp; omega
      · intro g cap w2 hown hgr hbb hgl
        have hp := (unhide HX).shut (g := g) (cap := cap) (unhide hF) hown hgr hbb hgl
        obtain ⟨⟨d0, d1⟩, hp⟩ := hp
        have HP := hide hp
        clear hp hown hgr hbb hgl hra
        go_wp2
        go_roundw
        case rel =>
          obtain ⟨p1, p2, p3, p4, p5, p6, p7⟩ := unhide HP
          have hcur : ap s (A ++ [(a, Value.slice ao Q.length cl)]).length x = some (k + 1) := by
            have e1 := ap_last s A.length x
            rw [(unhide HX).cur] at e1
            simp only at e1
            rw [(unhide HX).fe2, unhide hfk, if_pos (unhide HC)] at e1
            simpa using e1
          refine hide ⟨k + 1, _, A ++ [(a, Value.slice ao Q.length cl)], [], k + 1, m, gn, by go_num, ⟨p1, p2, p3, by simpa using p5, World.ownsRow_nil _ _ _ _, .inr (by simp [Value.ownBlock]), p6, hcur, by simp, rfl, fun q hq => by simp at hq, by simp; omega⟩, (unhide HB).trans p7, by omega, unhide HGD, (unhide HEE).trans (unhide hek), by omega⟩
        case measure => simp [intOf]; omega
    · -- a bracket that opens
      have HX := hide hXI
      have HEE := hide hee
      have HGD := hide hg
      have HB := hide hB
      have HC := hide hc
      have HBK := hide hbk
      rw [hbk] at hc
      clear hXI hee hg hB hbk hrel
      have hF : Hid (isF s k = true) := hide (by unfold isF; rw [unhide HC]; simp)
      have hin := inner s gn (k + 1) d (unhide HGD)
      have hbh : Hid (bh s k = ee s (k + 1) + 1) := hide (bh_open (unhide HGD) (unhide HC))
      have hek : Hid (ee s k = ee s (ee s (k + 1) + 1)) := hide (by rw [ee_fac (unhide hF), unhide hbh])
      obtain ⟨hin1, hin2, hin3, ⟨m2, hin4, hin5⟩, hin6, hin7⟩ := hin
      have HG2 := hide hin5
      clear hin3 hin5 hin6 hin7
      have HO : Hid (cO (s[k].toNat : Int) = true) := hide hc
      have HL : Hid (cL (s[k].toNat : Int) = false) := hide (by rcases cO_vals hc with e | e | e | e <;> rw [e] <;> decide)
      have HN : Hid (cN (s[k].toNat : Int) = false) := hide (by rcases cO_vals hc with e | e | e | e <;> rw [e] <;> decide)
      have hzne : (cC (s[k].toNat : Int) != 0) = true := by simpa [cO] using hc
      clear hc
      go_wp2_with (first | (go_at_call 115; refine (rclosing_any _ _).mono ?_; rintro e w' ⟨rfl, hw⟩; replace hw := hw.symm; subst hw) | (go_at_call 119; refine (letter_any _ _).mono ?_; rintro e w' ⟨rfl, hw⟩; replace hw := hw.symm; subst hw; rw [unhide HL]) | (go_at_call 59; refine (name_any _ _).mono ?_; rintro e w' ⟨rfl, hw⟩; replace hw := hw.symm; subst hw; rw [unhide HN]))
      refine (unhide IH gn (by omega) _ (k + 1) (d + 1) _ (by omega) (unhide HGD)).mono ?_
      rintro e w1 ⟨m1, rfl, hE1, hB1⟩
      have hX1 := (((unhide HX).below hB1).deeper (m' := max m m1) (by omega))
      have hs1 : SubIn w1 s (max m m1) (Sx w.heap.size w1 va u7) (k, .pointer (some ⟨wr.heap.size, 0, none⟩)) := by
        refine .inr ⟨unhide HC, _, rfl, EA.frame (fun _ _ => rfl) (fun b hb => ?_) m1 _ _ _ (by omega) hE1⟩
        refine ⟨by have := hb.1; omega, hb.2, fun e => ?_, fun e => ?_⟩
        · have := (unhide HX).ra.lt b e.symm; have := hb.1; omega
        · have := (unhide HX).rl.lt b e.symm; have := hb.1; omega
      have hrl := hX1.rl
      have hsz1 := hB1.size
      have HB1 := hide ((unhide HB).trans (hB1.mono (unhide HB).size))
      have HX1 := hide hX1
      have HS1 := hide hs1
      clear hX1 hs1 hE1 hB1
      go_wp2_with (first | (at_builtin; refine wpList_append_lies _ rfl _ _ 158 rfl (w.heap.size + 1) 98 i0 (.agg #[.int .u8 0, .pointer none]) 2 16 Tryz.underlying158 hi0 hz0 hz1 hz2 rfl (by decide) _ _ _ rfl (hrl.alloc _) ⟨_, 0, none⟩ 1 1 [.int .u8 (s[k].toNat : Int), .pointer (some ⟨wr.heap.size, 0, none⟩)] rfl rfl ?c1 ?c2 ?c3 ?c4 ?c5 ?c6 _ rfl ?_) | go_in)
      case c1 => exact World.news_of_block (heap_alloc_new _ _)
      case c2 => intro u hu; simp at hu; rcases hu with rfl | rfl <;> rfl
      case c3 => omega
      case c4 => unfold maxLen; omega
      case c5 => omega
      case c6 => simp; omega
      · intro g cap w2 hown hgr hbb hgl
        have hp := (unhide HX1).push (g := g) (cap := cap) (sv := .pointer (some ⟨wr.heap.size, 0, none⟩)) (unhide hF) (unhide hbh) (unhide HS1) (by rw [unhide HBK]; exact hown) hgr hbb
        have HP := hide hp
        clear hp hown hgr hbb hgl hrl
        go_wp2
        go_roundw
        case rel => exact hide ⟨ee s (k + 1) + 1, va, A, _, a, _, m2, by go_num, (unhide HP).1, (unhide HB1).trans ((unhide HP).2.mono (by omega)), by omega, unhide HG2, (unhide HEE).trans (unhide hek), by omega⟩
        case measure => simp [intOf]; omega
    · -- a bracket that closes
      obtain ⟨ao, cl, hu7⟩ := hXI.vlForm
      subst hu7
      have hra := hXI.ra
      have c0 := hXI.cell
      have HX := hide hXI
      have HEE := hide hee
      have HB := hide hB
      have HC := hide hc
      have HBK := hide hbk
      rw [hbk] at hc
      clear hXI hee hB hbk hrel
      have hv := close_not (unhide HC)
      have hF : Hid (isF s k = false) := hide (by unfold isF; rw [hv.1, hv.2.1, hv.2.2.1]; rfl)
      have hn124 : Hid (bt s k ≠ 124) := hide hv.2.2.2
      have HL : Hid (cL (s[k].toNat : Int) = false) := hide (by rw [← unhide HBK]; exact hv.1)
      have HN : Hid (cN (s[k].toNat : Int) = false) := hide (by rw [← unhide HBK]; exact hv.2.1)
      have HZ : Hid (cC (s[k].toNat : Int) = 0) := hide (by rw [← unhide HBK]; simpa [cO] using hv.2.2.1)
      have h124 : ((s[k].toNat : Int) == 124) = false := by simp only [beq_eq_false_iff_ne]; rw [← unhide HBK]; exact hv.2.2.2
      clear hv
      have hfk : Hid ((fe s k).2 = k) := hide (by rw [fe_no (unhide hF)])
      have hek : Hid (ee s k = k) := hide (by rw [ee_end (by rw [unhide hfk]; exact unhide hn124), unhide hfk])
      clear hc
      go_wp2_with (first | (go_at_call 115; refine (rclosing_any _ _).mono ?_; rintro e w' ⟨rfl, hw⟩; replace hw := hw.symm; subst hw; rw [unhide HZ]) | (go_at_call 119; refine (letter_any _ _).mono ?_; rintro e w' ⟨rfl, hw⟩; replace hw := hw.symm; subst hw; rw [unhide HL]) | (go_at_call 59; refine (name_any _ _).mono ?_; rintro e w' ⟨rfl, hw⟩; replace hw := hw.symm; subst hw; rw [unhide HN]) | (at_builtin; refine wpList_append_lies _ rfl _ _ 155 rfl (w.heap.size + 1) 158 i1 (.slice none 0 0) 1 24 Tryz.underlying155 hi1 hy0 hy1 hy2 rfl (by decide) _ _ _ rfl (hra.alloc _) ⟨_, 0, none⟩ 1 1 [.slice ao Q.length cl] rfl rfl ?c1 ?c2 ?c3 ?c4 ?c5 ?c6 _ rfl ?_) | go_in)
      case c1 => exact World.news_of_block (heap_alloc_new _ _)
      case c2 => intro u hu; simp at hu; subst hu; rfl
      case c3 => omega
      case c4 => unfold maxLen; omega
      case c5 => omega
      case c6 => simp; omega
      · intro g cap w2 hown hgr hbb hgl
        have hp := (unhide HX).shut (g := g) (cap := cap) (unhide hF) hown hgr hbb hgl
        obtain ⟨⟨d0, d1⟩, hp⟩ := hp
        have HP := hide hp
        clear hp hown hgr hbb hgl hra
        go_wp2
        go_ret2
        obtain ⟨p1, p2, p3, p4, p5, p6, p7⟩ := unhide HP
        have hnone : ap s (A ++ [(a, Value.slice ao Q.length cl)]).length x = none := by
          have e1 := ap_last s A.length x
          rw [(unhide HX).cur] at e1
          simp only at e1
          rw [(unhide HX).fe2, unhide hfk, if_neg (unhide hn124)] at e1
          simpa using e1
        refine ⟨m + 1, by rw [unhide HEE, unhide hek]; rfl, EA_of_parts p1 p2 p4 p5 p6 hnone (by simp; omega), (unhide HB).trans (p7.mono (by omega))⟩
    · -- the rule's end
      obtain ⟨ao, cl, hu7⟩ := hXI.vlForm
      subst hu7
      have hra := hXI.ra
      have c0 := hXI.cell
      have HX := hide hXI
      have HEE := hide hee
      have HB := hide hB
      have HC := hide hc
      have HBK := hide hbk
      rw [hbk] at hc
      clear hXI hee hB hbk hrel
      have hF : Hid (isF s k = false) := hide (by unfold isF; rw [unhide HC]; decide)
      have hn124 : Hid (bt s k ≠ 124) := hide (by rw [unhide HC]; decide)
      have HL : Hid (cL (s[k].toNat : Int) = false) := hide (by rw [hc]; decide)
      have HN : Hid (cN (s[k].toNat : Int) = false) := hide (by rw [hc]; decide)
      have HZ : Hid (cC (s[k].toNat : Int) = 0) := hide (by rw [hc]; decide)
      have h124 : ((s[k].toNat : Int) == 124) = false := by simp only [beq_eq_false_iff_ne]; rw [hc]; decide
      have hfk : Hid ((fe s k).2 = k) := hide (by rw [fe_no (unhide hF)])
      have hek : Hid (ee s k = k) := hide (by rw [ee_end (by rw [unhide hfk]; exact unhide hn124), unhide hfk])
      clear hc
      go_wp2_with (first | (go_at_call 115; refine (rclosing_any _ _).mono ?_; rintro e w' ⟨rfl, hw⟩; replace hw := hw.symm; subst hw; rw [unhide HZ]) | (go_at_call 119; refine (letter_any _ _).mono ?_; rintro e w' ⟨rfl, hw⟩; replace hw := hw.symm; subst hw; rw [unhide HL]) | (go_at_call 59; refine (name_any _ _).mono ?_; rintro e w' ⟨rfl, hw⟩; replace hw := hw.symm; subst hw; rw [unhide HN]) | (at_builtin; refine wpList_append_lies _ rfl _ _ 155 rfl (w.heap.size + 1) 158 i1 (.slice none 0 0) 1 24 Tryz.underlying155 hi1 hy0 hy1 hy2 rfl (by decide) _ _ _ rfl (hra.alloc _) ⟨_, 0, none⟩ 1 1 [.slice ao Q.length cl] rfl rfl ?c1 ?c2 ?c3 ?c4 ?c5 ?c6 _ rfl ?_) | go_in)
      case c1 => exact World.news_of_block (heap_alloc_new _ _)
      case c2 => intro u hu; simp at hu; subst hu; rfl
      case c3 => omega
      case c4 => unfold maxLen; omega
      case c5 => omega
      case c6 => simp; omega
      · intro g cap w2 hown hgr hbb hgl
        have hp := (unhide HX).shut (g := g) (cap := cap) (unhide hF) hown hgr hbb hgl
        obtain ⟨⟨d0, d1⟩, hp⟩ := hp
        have HP := hide hp
        clear hp hown hgr hbb hgl hra
        go_wp2
        go_ret2
        obtain ⟨p1, p2, p3, p4, p5, p6, p7⟩ := unhide HP
        have hnone : ap s (A ++ [(a, Value.slice ao Q.length cl)]).length x = none := by
          have e1 := ap_last s A.length x
          rw [(unhide HX).cur] at e1
          simp only at e1
          rw [(unhide HX).fe2, unhide hfk, if_neg (unhide hn124)] at e1
          simpa using e1
        refine ⟨m + 1, by rw [unhide HEE, unhide hek]; rfl, EA_of_parts p1 p2 p4 p5 p6 hnone (by simp; omega), (unhide HB).trans (p7.mono (by omega))⟩
end Go.Proofs.YtnfaiaoipeholaaGreat
