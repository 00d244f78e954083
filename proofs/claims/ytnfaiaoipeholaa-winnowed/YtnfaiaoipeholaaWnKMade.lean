/- What winnowkeep's made answers. -/
import Derived.Test.YtnfaiaoipeholaaWnPmk
import Derived.Test.YtnfaiaoipeholaaWnInvD
namespace Go.Proofs.Ytnfaiaoipeholaa
open Go.RowKit
/-- which of so many a raw number speaks of -/
def pk (c n : Int) : Int := (if c < 0 then -(c + 1) else c) % n
theorem pk_bd {c n : Int} (h : 0 < n) : 0 ≤ pk c n ∧ pk c n < n := ⟨Int.emod_nonneg _ (by omega), Int.emod_lt_of_pos _ h⟩
/-- a number as it may come in -/
def Rng (c : Int) : Prop := -9223372036854775808 ≤ c ∧ c ≤ 9223372036854775807

set_option maxHeartbeats 400000 in
theorem pick_any (c n : Int) (w : World) (hc : Rng c) (hn : 0 < n ∧ n ≤ 100) : Calls Try.prog 7 #[.int .i64 c, .int .i64 n] w fun e w' => e = .returned (.int .i64 (pk c n)) ∧ w' = w := by
  obtain ⟨hc1, hc2⟩ := hc
  obtain ⟨hn1, hn2⟩ := hn
  have hne : n ≠ 0 := by omega
  by_cases h : c < 0
  · have h0 : 0 ≤ -(c + 1) := by omega
    have e : pk c n = -((c + 1).tmod n) := by unfold pk; rw [if_pos h, ← Int.neg_tmod, Int.tmod_eq_emod_of_nonneg h0]
    rw [e]
    clear e
    go_enter Try.func7, Try.ntmps7
    go_wp2
    go_ret
    exact ⟨rfl, rfl⟩
  · have e : pk c n = c % n := by unfold pk; rw [if_neg h]
    have h0 : 0 ≤ c := by omega
    rw [e]
    clear e
    go_enter Try.func7, Try.ntmps7
    go_wp2
    go_ret
    exact ⟨rfl, rfl⟩

theorem kstrs_append (T l : List Int) : strOfNums T ++ strOfNums l = strOfNums (T ++ l) := by
  have h : (strOfNums T ++ strOfNums l).data = (strOfNums (T ++ l)).data := by rw [ByteArray.data_append]; simp [strOfNums]
  cases h1 : strOfNums T ++ strOfNums l with
  | mk d => cases h2 : strOfNums (T ++ l) with
    | mk d' => rw [h1, h2] at h; simp at h; rw [h]
theorem kconv_one (w : World) (x : Int) : (convert 45 9 (.slice (some ⟨w.heap.size, 0, none⟩) 1 1)).run Try.prog (w.alloc (.cells #[.int .u8 x] 5)) = .ok (.string (strOfNums [x])) (w.alloc (.cells #[.int .u8 x] 5)) :=
  run_convert_bytes_arg _ 45 5 Try.underlying45 Try.underlying5 w.heap.size 0 1 1 [x] rfl (fun i hi => by
    have : i = 0 := by omega
    subst this
    rw [World.cell?_alloc_new]; rfl) _ Try.underlying9

theorem kconv_drew (w : World) (x : Int) : (convert 45 9 (.slice (some ⟨w.heap.size, 0, none⟩) 1 1)).run Try.prog (w.alloc (.cells #[.int .u8 x] 5)).drew = .ok (.string (strOfNums [x])) (w.alloc (.cells #[.int .u8 x] 5)).drew :=
  run_convert_bytes_arg _ 45 5 Try.underlying45 Try.underlying5 w.heap.size 0 1 1 [x] rfl (fun i hi => by
    have : i = 0 := by omega
    subst this
    show (w.alloc (.cells #[.int .u8 x] 5)).cell? _ = _
    rw [World.cell?_alloc_new]; rfl) _ Try.underlying9

/-- numbers that came in -/
structure Nums (w : World) (ao : Option Addr) (len : Nat) : Prop where
  hl : len ≤ maxLen
  at_ : ∀ i, i < len → ∃ b o v, ao = some ⟨b, o, none⟩ ∧ b < w.heap.size ∧ w.cell? ⟨b, o + i, none⟩ = some (.int .i64 v) ∧ Rng v

/-- numbers that came in, told one by one -/
structure NumV (w : World) (ao : Option Addr) (len : Nat) (V : Nat → Int) : Prop where
  hl : len ≤ maxLen
  at_ : ∀ i, i < len → ∃ b o, ao = some ⟨b, o, none⟩ ∧ b < w.heap.size ∧ w.cell? ⟨b, o + i, none⟩ = some (.int .i64 (V i)) ∧ Rng (V i)
theorem Nums.val {w : World} {ao : Option Addr} {len : Nat} (h : Nums w ao len) : ∃ V, NumV w ao len V := by
  have hv : ∀ i, ∃ v, i < len → ∃ b o, ao = some ⟨b, o, none⟩ ∧ b < w.heap.size ∧ w.cell? ⟨b, o + i, none⟩ = some (.int .i64 v) ∧ Rng v := fun i => by
    by_cases hi : i < len
    · obtain ⟨b, o, v, q⟩ := h.at_ i hi
      exact ⟨v, fun _ => ⟨b, o, q⟩⟩
    · exact ⟨0, fun e => absurd e hi⟩
  obtain ⟨V, hV⟩ := Classical.axiomOfChoice hv
  exact ⟨V, h.hl, hV⟩
theorem NumV.below {w w' : World} {ao : Option Addr} {len : Nat} {V : Nat → Int} (h : NumV w ao len V) (g : Below w.heap.size w w') : NumV w' ao len V :=
  ⟨h.hl, fun i hi => by
    obtain ⟨b, o, e, hb, hc, hv⟩ := h.at_ i hi
    exact ⟨b, o, e, Nat.lt_of_lt_of_le hb g.size, (g.cell (p := ⟨b, o + i, none⟩) hb).trans hc, hv⟩⟩
/-- the choices that the numbers speak of -/
def dl (V : Nat → Int) : Nat → List Int
  | 0 => []
  | k + 1 => dl V k ++ [48 + pk (V k) 10]
theorem dl_len (V : Nat → Int) : ∀ k, (dl V k).length = k
  | 0 => rfl
  | k + 1 => by unfold dl; rw [List.length_append, dl_len V k]; rfl
theorem dl_dgs (V : Nat → Int) {n : Nat} : ∀ k, k ≤ n → Dgs (dl V k) n
  | 0, _ => Dgs.nil _
  | k + 1, h => ⟨by rw [dl_len]; exact h, fun x hx => by
    unfold dl at hx
    rcases List.mem_append.1 hx with hx | hx
    · exact (dl_dgs (n := n) V k (by omega)).2 x hx
    · have := pk_bd (c := V k) (n := 10) (by omega)
      simp at hx; omega⟩
def cho (V : Nat → Int) (len : Nat) : ByteArray := strOfNums (dl V (min len 2000))

/-- what made answers -/
def OutC (s c : ByteArray) (h m : Nat) (w : World) (e : Ending) (w' : World) : Prop :=
  Below w.heap.size w w' ∧ ((mk s c h m).2 = 0 ∧ e = .returned (.tuple #[.string (mk s c h m).1, .bool true, .bool true]) ∨ (mk s c h m).2 ≠ 0 ∧ e = .returned (.tuple #[.string ⟨#[]⟩, .bool false, .bool true]))
def OutK (s : ByteArray) (h m : Nat) (w : World) (e : Ending) (w' : World) : Prop :=
  Below w.heap.size w w' ∧ ((∃ c, (mk s c h m).2 = 0 ∧ e = .returned (.tuple #[.string (mk s c h m).1, .bool true, .bool true])) ∨ e = .returned (.tuple #[.string ⟨#[]⟩, .bool false, .bool true]))
theorem OutC.outK {s c : ByteArray} {h m : Nat} {w w' : World} {e : Ending} (q : OutC s c h m w e w') : OutK s h m w e w' :=
  ⟨q.1, q.2.elim (fun x => .inl ⟨c, x⟩) (fun x => .inr x.2)⟩

set_option maxHeartbeats 1000000 in
set_option maxRecDepth 1000000 in
theorem made_at (s : ByteArray) (ao : Option Addr) (len cap h m : Nat) (V : Nat → Int) (w : World) (hs : s.size ≤ maxLen) (hN : NumV w ao len V) (hh : 1 ≤ h ∧ h ≤ 9) (hm : 1 ≤ m ∧ m ≤ 5) :
    Calls Try.prog 8 #[.string s, .slice ao len cap, .int .i64 h, .int .i64 m] w fun e w' => OutC s (cho V len) h m w e w' := by
  have hl := hN.hl
  unfold maxLen at hl
  have HN := hide hN
  have HHH := hide hh
  have HMM := hide hm
  obtain ⟨hh1, hh2⟩ := hh
  obtain ⟨hm1, hm2⟩ := hm
  clear hN
  go_enter Try.func8, Try.ntmps8
  go_wp2
  go_loopw [11, 12] (fun cv iv wr => ∃ (k : Nat) (L : List Int), iv = .int .i64 k ∧ cv = .string (strOfNums L) ∧ k ≤ len ∧ k ≤ 2000 ∧ L.length = k ∧ Hid (L = dl V k) ∧ Hid (Below w.heap.size w wr)) (fun iv jv _ => 2001 - (intOf jv).toNat)
  case atStart => exact ⟨0, [], rfl, rfl, Nat.zero_le _, by omega, rfl, hide rfl, hide (Below.refl _ _)⟩
  case round =>
    obtain ⟨k, L, rfl, rfl, hkl, hk2, hL, hD, hB⟩ := hrel
    by_cases hlt : k < len ∧ k < 2000
    · obtain ⟨hlt1, hlt2⟩ := hlt
      obtain ⟨b, o, rfl, hb, hc, hv⟩ := (unhide HN).at_ k hlt1
      have hdl : Hid (dl V (k + 1) = dl V k ++ [48 + pk (V k) 10]) := hide rfl
      generalize V k = v at *
      have c0 := ((unhide hB).cell (p := ⟨b, o + k, none⟩) hb).trans hc
      have hpk := pk_bd (c := v) (n := 10) (by omega)
      obtain ⟨hp1, hp2⟩ := hpk
      generalize hpe : pk v 10 = d at *
      have HPE := hide hpe
      have HV := hide hv
      have hcv := kconv_one wr (48 + d)
      have hz1 : (strOfNums L).size = L.length := strOfNums_size L
      have hz2 : (strOfNums [48 + d]).size = 1 := by rw [strOfNums_size]; rfl
      have HA := hide (kstrs_append L [48 + d])
      have HD2 : Hid (L ++ [48 + d] = dl V (k + 1)) := hide (by rw [unhide hdl, unhide hD])
      have HB2 : Hid (Below w.heap.size w (wr.alloc (.cells #[.int .u8 (48 + d)] 5))) := hide ((unhide hB).alloc (unhide hB).size _)
      have hwr1 : IntKind.i64.wrap (48 + d) = 48 + d := by simp [IntKind.wrap, IntKind.signed, IntKind.bits]; omega
      have hwr2 : IntKind.u8.wrap (48 + d) = 48 + d := by simp [IntKind.wrap, IntKind.signed, IntKind.bits]; omega
      have hcd := kconv_drew wr (48 + d)
      clear hc hpe hv
      go_wp2_with (go_at_call 7; refine (pick_any _ _ _ (unhide HV) (by omega)).mono ?_; rw [unhide HPE]; rintro e w' ⟨rfl, hw⟩; replace hw := hw.symm; subst hw)
      exact ⟨⟨k + 1, L ++ [48 + d], by go_num, by rw [unhide HA], by omega, by omega, by simp [hL], HD2, HB2⟩, by simp [intOf]; omega⟩
    · have hk0 : k = min len 2000 := by omega
      have hdg : digs (strOfNums L) = true := by rw [unhide hD]; exact digs_of (dl_dgs V (n := 2000) k hk2)
      have hcho : cho V len = strOfNums L := by unfold cho; rw [← hk0, unhide hD]
      clear hk0
      have hsz : (strOfNums L).size ≤ 2000 := by rw [strOfNums_size]; omega
      have hz : (strOfNums L).size ≤ maxLen := by unfold maxLen; omega
      have hor := refused_ok (s := s) (c := strOfNums L) (unhide HHH) (unhide HMM) hsz hdg
      have hout : ∀ e w', ((mk s (strOfNums L) h m).2 = 0 ∧ e = .returned (.tuple #[.string (mk s (strOfNums L) h m).1, .bool true, .bool true]) ∨ (mk s (strOfNums L) h m).2 ≠ 0 ∧ e = .returned (.tuple #[.string ⟨#[]⟩, .bool false, .bool true])) → Below w.heap.size w w' → OutC s (cho V len) h m w e w' := fun e w' he hb => by rw [hcho]; exact ⟨hb, he⟩
      have HOUT := hide hout
      clear hout hcho
      generalize hR : mk s (strOfNums L) h m = R at *
      obtain ⟨T, E⟩ := R
      simp only at hor
      have HR := hide hR
      clear hR hdg
      by_cases hE : E = 0
      · subst hE
        clear hor
        by_cases hlt1 : k < len
        · have hlt2 : ¬ k < 2000 := fun h => hlt ⟨hlt1, h⟩
          clear hlt
          go_wp2_with (go_at_call 11; refine (make_any _ _ _ hs hz).mono ?_; rw [unhide HR]; rintro e w1 ⟨rfl, hb1⟩)
          go_ret3
          exact unhide HOUT _ _ (.inl ⟨by trivial, rfl⟩) ((unhide hB).trans (hb1.mono (unhide hB).size))
        · clear hlt
          go_wp2_with (go_at_call 11; refine (make_any _ _ _ hs hz).mono ?_; rw [unhide HR]; rintro e w1 ⟨rfl, hb1⟩)
          go_ret3
          exact unhide HOUT _ _ (.inl ⟨by trivial, rfl⟩) ((unhide hB).trans (hb1.mono (unhide hB).size))
      · obtain ⟨rfl, hor2⟩ := hor hE
        clear hor
        have hE' : (E == 0) = false := by simp [hE]
        have HE := hide hE
        clear hE
        have hck : ∀ w, Calls Try.prog 20 #[.string s] w fun e w' => e = .returned (.tuple #[.int .i64 (chk s).1, .int .i64 (chk s).2]) ∧ Below w.heap.size w w' := fun w => check_any s w hs
        generalize chk s = FG at *
        obtain ⟨F, G⟩ := FG
        simp only at hor2 hck
        have HCK := hide hck
        clear hck
        by_cases hlt1 : k < len
        · have hlt2 : ¬ k < 2000 := fun h => hlt ⟨hlt1, h⟩
          clear hlt
          rcases hor2 with rfl | ⟨rfl, rfl | rfl⟩
          all_goals
            go_wp2_with (first
              | (go_at_call 11; refine (make_any _ _ _ hs hz).mono ?_; rw [unhide HR]; rintro e w1 ⟨rfl, hb1⟩)
              | (go_at_call 20; refine (unhide HCK _).mono ?_; rintro e w2 ⟨rfl, hb2⟩))
            go_ret3
            exact unhide HOUT _ _ (.inr ⟨unhide HE, rfl⟩) (((unhide hB).trans (hb1.mono (unhide hB).size)).trans (hb2.mono (Nat.le_trans (unhide hB).size hb1.size)))
        · clear hlt
          rcases hor2 with rfl | ⟨rfl, rfl | rfl⟩
          all_goals
            go_wp2_with (first
              | (go_at_call 11; refine (make_any _ _ _ hs hz).mono ?_; rw [unhide HR]; rintro e w1 ⟨rfl, hb1⟩)
              | (go_at_call 20; refine (unhide HCK _).mono ?_; rintro e w2 ⟨rfl, hb2⟩))
            go_ret3
            exact unhide HOUT _ _ (.inr ⟨unhide HE, rfl⟩) (((unhide hB).trans (hb1.mono (unhide hB).size)).trans (hb2.mono (Nat.le_trans (unhide hB).size hb1.size)))
theorem made_any (s : ByteArray) (ao : Option Addr) (len cap h m : Nat) (w : World) (hs : s.size ≤ maxLen) (hN : Nums w ao len) (hh : 1 ≤ h ∧ h ≤ 9) (hm : 1 ≤ m ∧ m ≤ 5) :
    Calls Try.prog 8 #[.string s, .slice ao len cap, .int .i64 h, .int .i64 m] w fun e w' => OutK s h m w e w' := by
  obtain ⟨V, hV⟩ := hN.val
  exact (made_at s ao len cap h m V w hs hV hh hm).mono fun e w' q => q.outK
end Go.Proofs.Ytnfaiaoipeholaa
